/- A region in any order, each operation told by what it yields in its world; one of them (number p) may turn memory that is the call's own. No program is imported. Rows of nodes and of numbers that grow; what a call keeps. A class of worlds in which, beside, no draw is taken back: what the library's contract of SortFunc asks. A region that draws its order: its operations read, or are calls that answer a value and leave what was there; one of them may make a block; the last ones, in one forced order, store. One walk in the order of the text serves every order. No program is imported. Package topo: against, and the closure that edges are sorted by. Package bvh: how items are sorted. -/
import Derived.Maps.AppendAt
import Derived.StillTail
import Derived.Sort.OwnSorted
import Derived.Shelf.SlSortCmp.NoneTotal
import Derived.Test.YthadlpkdfnonjaaShelf
import Derived.Test.YthadlpkdfnonjaaC0
import Derived.Test.YthadlpkdfnonjaaC10
import Derived.Test.YthadlpkdfnonjaaC11
namespace Go.Proofs.Ythadlpkdfnonjaa
open Go.RowKit
set_option linter.unusedVariables false
set_option linter.unusedSimpArgs false
/-- What the operations yield, told by a row. -/
def RKb (vs : List Value) : Nat → Value → Prop := fun j v => v = vs.getD j undef
section
variable {P : Program} {l : List Oper} {n : Nat} {Q : Exit → Act → World → Prop} {R : Nat → World → Value → Prop} {a0 : Act} {p : Nat} {I : Bool → World → Prop}
def JR (ops : Array Oper) (R : Nat → World → Value → Prop) (p : Nat) (I : Bool → World → Prop) (listed : Array Bool) (a : Act) (w : World) : Prop :=
  I (listed.getD p false) w ∧ p < listed.size ∧ ∀ (j : Nat) (o : Oper) (d : Tmp), ops[j]? = some o → o.dst = some d → listed.getD j false = true → ∃ v, a.tmps[d]? = some v ∧ R j w v
/-- An operation, once those that it waits for are done, whatever else has been. -/
def MonoRS (P : Program) (ops : Array Oper) (R : Nat → World → Value → Prop) (a0 : Act) (p : Nat) (I : Bool → World → Prop) (Q : Exit → Act → World → Prop) (i : Nat) (o : Oper) : Prop :=
  o.guard = none ∧ ∀ (b : Bool) (a : Act) (u : World), (i = p → b = false) → I b u → (∀ t, (∀ (j : Nat) (o : Oper), ops[j]? = some o → o.dst ≠ some t) → a.tmps[t]? = a0.tmps[t]?) →
    (∀ e ∈ o.after, Region.binds .any e = true → ∀ (oj : Oper) (d : Tmp), ops[e.on]? = some oj → oj.dst = some d → ∃ v, a.tmps[d]? = some v ∧ R e.on u v) →
    o.wp P a u (fun a' w' => ∃ v, a' = a.put o.dst v ∧ (i ≠ p → I b w') ∧ (i = p → I true w') ∧ (∀ j v', j ≠ i → R j u v' → R j w' v') ∧ (∀ d, o.dst = some d → R i w' v)) Q
theorem MonoRS.v {ops : Array Oper} {i : Nat} {o : Oper} (h : MonoRS P ops R a0 p I Q i o) (hi : ops[i]? = some o)
    (hd : ∀ (i j : Nat) (oi oj : Oper) (d : Tmp), ops[i]? = some oi → ops[j]? = some oj → oi.dst = some d → oj.dst = some d → i = j) (hsz : ∀ (j : Nat) (oj : Oper) (d : Tmp), ops[j]? = some oj → oj.dst = some d → d < a0.tmps.size) :
    MonoVS P ops (fun _ _ => True) a0 (JR ops R p I) Q i o :=
  ⟨h.1, fun a w listed hJ hu hall hs hdf hk hgot => by
    obtain ⟨h1, h2, h3⟩ := hJ
    refine Oper.wp_mono ?_ (h.2 (listed.getD p false) a w (fun e => by subst e; exact (getD_tf hu).1) h1 hk (fun e he hb oj d hoj hdj => h3 e.on oj d hoj hdj (hall e he hb)))
    rintro a' w' ⟨v, rfl, q1, q2, q3, q4⟩
    obtain ⟨p1, p2, p3, p4⟩ := put_tmps a o.dst v
    refine ⟨v, rfl, ⟨?_, by simpa using h2, fun j oj d hj hjd hl => ?_⟩, fun _ _ => trivial⟩
    · by_cases e : i = p
      · subst e
        rw [getD_self h2]
        exact q2 rfl
      · rw [getD_set_ne false e]
        exact q1 e
    · by_cases hij : i = j
      · subst hij
        obtain rfl := Option.some.inj (hi.symm.trans hj)
        exact ⟨v, p4 d hjd (by rw [hs]; exact hsz i o d hi hjd), q4 d hjd⟩
      · rw [getD_set_ne false hij] at hl
        obtain ⟨u, hu1, hr⟩ := h3 j oj d hj hjd hl
        exact ⟨u, (p3 d (fun e => hij (hd i j o oj d hi hj e hjd))).trans hu1, q3 j u (Ne.symm hij) hr⟩⟩
theorem allI_map {X Y : Nat → Oper → Prop} : ∀ (l : List Oper) (k : Nat), (∀ i o, l[i]? = some o → X (k + i) o → Y (k + i) o) → allI X k l → allI Y k l
  | [], _, _, _ => trivial
  | o :: l, k, h, ⟨h1, h2⟩ => ⟨h 0 o rfl h1, allI_map l (k + 1) (fun i o' hi hx => by
    have := h (i + 1) o' (by simpa using hi)
    rw [show k + (i + 1) = k + 1 + i by omega] at this
    exact this hx) h2⟩
theorem wp_region_monoR {id : Nat} {w0 : World} (n : Nat) (R : Nat → World → Value → Prop) (p : Nat) (I : Bool → World → Prop) (hm : P.follows .mixedOrders = true) (N : Nat) (hn : a0.tmps.size = N) (hE : edgesB2 l = true) (hW : waitB l n = true) (hnl : decide (n ≤ l.length) = true) (hpn : decide (p < l.length) = true) (hseq : Region.seqB .any l.toArray (l.length - n) n (doneA l.length n) = true) (hD : dstB (l.take n) N = true)
    (hJ0 : I false w0.drew)
    (hS : allI (MonoRS P (l.take n).toArray R a0 p I Q) 0 (l.take n))
    (hend : ∀ (a : Act) (w : World), (p < n → I true w) → a.tmps.size = a0.tmps.size → a.defers = a0.defers → (∀ t, (∀ (j : Nat) (o : Oper), (l.take n).toArray[j]? = some o → o.dst ≠ some t) → a.tmps[t]? = a0.tmps[t]?) → (∀ (j : Nat) (o : Oper) (d : Tmp), (l.take n).toArray[j]? = some o → o.dst = some d → ∃ v, a.tmps[d]? = some v ∧ R j w v) → wpList P l.toArray Q (l.drop n) a w) :
    (Code.region id l.toArray true).wp P Q a0 w0 := by
  refine wp_region_monoV (a0 := a0) n (fun _ _ => True) (JR (l.take n).toArray R p I) hm N hn hE hW hnl hseq hD ⟨?_, ?_, fun j o d _ _ h => ?_⟩ ?_ ?_
  · have e : (Array.replicate l.toArray.size false).getD p false = false := by simp [Array.getD]
    rw [e]; exact hJ0
  · have : p < l.length := by simpa using hpn
    simpa using this
  · simp [Array.getD] at h
  · refine allI_map _ 0 (fun i o hi hx => ?_) hS
    rw [Nat.zero_add] at hx ⊢
    exact hx.v (by simpa using hi) (dst_one hD) (fun j oj d h1 h2 => by rw [hn]; exact dst_lt hD j oj d h1 h2)
  · intro a w listed hJ hall hsz hdf hk _
    obtain ⟨h1, h2, h3⟩ := hJ
    refine hend a w (fun hp => by rw [hall p hp] at h1; exact h1) hsz hdf hk (fun j o d hj hd => h3 j o d hj hd (hall j ?_))
    have := (Array.getElem?_eq_some_iff.1 hj).1
    simp at this
    omega
/-- What stays in later worlds. -/
def StayR (R : Nat → World → Value → Prop) : Prop := ∀ (j : Nat) (w w' : World) (v : Value), Below w.heap.size w w' → R j w v → R j w' v
theorem monoR_val {ops : Array Oper} {i : Nat} {o : Oper} (hg : o.guard = none) (hp : i ≠ p)
    (h : ∀ (a : Act) (u : World), (∃ b, I b u) → (∀ t, (∀ (j : Nat) (o : Oper), ops[j]? = some o → o.dst ≠ some t) → a.tmps[t]? = a0.tmps[t]?) →
      (∀ e ∈ o.after, Region.binds .any e = true → ∀ (oj : Oper) (d : Tmp), ops[e.on]? = some oj → oj.dst = some d → ∃ v, a.tmps[d]? = some v ∧ R e.on u v) → ∃ v, (execOp a.eval o).run P u = .ok (.value v) u ∧ R i u v) : MonoRS P ops R a0 p I Q i o :=
  ⟨hg, fun b a u hb hI hk hgot => by
    obtain ⟨v, hr, hR⟩ := h a u ⟨b, hI⟩ hk hgot
    exact wp_value hr ⟨v, rfl, fun _ => hI, fun e => absurd e hp, fun j v' _ h => h, fun _ _ => hR⟩⟩
/-- An operation that makes memory and leaves the old as it was. -/
theorem monoR_new {ops : Array Oper} {i : Nat} {o : Oper} (hg : o.guard = none) (hp : i ≠ p) (hst : StayR R) (hI : ∀ b u u', Below u.heap.size u u' → I b u → I b u')
    (h : ∀ (a : Act) (u : World), (∃ b, I b u) → (∀ t, (∀ (j : Nat) (o : Oper), ops[j]? = some o → o.dst ≠ some t) → a.tmps[t]? = a0.tmps[t]?) →
      (∀ e ∈ o.after, Region.binds .any e = true → ∀ (oj : Oper) (d : Tmp), ops[e.on]? = some oj → oj.dst = some d → ∃ v, a.tmps[d]? = some v ∧ R e.on u v) → ∃ v u', (execOp a.eval o).run P u = .ok (.value v) u' ∧ Below u.heap.size u u' ∧ R i u' v) : MonoRS P ops R a0 p I Q i o :=
  ⟨hg, fun b a u hb hIu hk hgot => by
    obtain ⟨v, u', hr, hB, hR⟩ := h a u ⟨b, hIu⟩ hk hgot
    exact wp_value hr ⟨v, rfl, fun _ => hI b u u' hB hIu, fun e => absurd e hp, fun j v' _ h => hst j u u' v' hB h, fun _ _ => hR⟩⟩
theorem monoR_call {ops : Array Oper} {i : Nat} {o : Oper} (hg : o.guard = none) (hp : i ≠ p) (hst : StayR R) (hI : ∀ b u u', Below u.heap.size u u' → I b u → I b u')
    (h : ∀ (a : Act) (u : World), (∃ b, I b u) → (∀ t, (∀ (j : Nat) (o : Oper), ops[j]? = some o → o.dst ≠ some t) → a.tmps[t]? = a0.tmps[t]?) →
      (∀ e ∈ o.after, Region.binds .any e = true → ∀ (oj : Oper) (d : Tmp), ops[e.on]? = some oj → oj.dst = some d → ∃ v, a.tmps[d]? = some v ∧ R e.on u v) → ∃ f args, (execOp a.eval o).run P u = .ok (.enter f args) u ∧ Calls P f args u fun e w' => ∃ v, e = .returned v ∧ Below u.heap.size u w' ∧ R i w' v) : MonoRS P ops R a0 p I Q i o :=
  ⟨hg, fun b a u hb hIu hk hgot => by
    obtain ⟨f, args, hr, hc⟩ := h a u ⟨b, hIu⟩ hk hgot
    refine wp_enter (R := fun v' w' => Below u.heap.size u w' ∧ R i w' v') hr (hc.mono fun e w' ⟨v, he, h1, h2⟩ => ⟨v, he, h1, h2⟩) fun v' w' ⟨hB, hR⟩ => ?_
    exact ⟨v', rfl, fun _ => hI b u w' hB hIu, fun e => absurd e hp, fun j v'' _ h => hst j u w' v'' hB h, fun _ _ => hR⟩⟩
/-- The operation that turns what is the call's own. -/
theorem monoR_turn {ops : Array Oper} {o : Oper} (hg : o.guard = none)
    (h : ∀ (a : Act) (u : World), I false u → (∀ t, (∀ (j : Nat) (o : Oper), ops[j]? = some o → o.dst ≠ some t) → a.tmps[t]? = a0.tmps[t]?) →
      (∀ e ∈ o.after, Region.binds .any e = true → ∀ (oj : Oper) (d : Tmp), ops[e.on]? = some oj → oj.dst = some d → ∃ v, a.tmps[d]? = some v ∧ R e.on u v) → ∃ v u', (execOp a.eval o).run P u = .ok (.value v) u' ∧ I true u' ∧ (∀ j v', j ≠ p → R j u v' → R j u' v') ∧ R p u' v) : MonoRS P ops R a0 p I Q p o :=
  ⟨hg, fun b a u hb hIu hk hgot => by
    obtain rfl := hb rfl
    obtain ⟨v, u', hr, h1, h2, h3⟩ := h a u hIu hk hgot
    exact wp_value hr ⟨v, rfl, fun e => absurd rfl e, fun _ => h1, h2, fun _ _ => h3⟩⟩
/-- A store, as one of the changes of wp_region_monoK. -/
theorem monoN_store {R : Nat → Value → Prop} {ps : List Nat} {us : Nat → World} {ops : Array Oper} {i : Nat} {o : Oper} (hg : o.guard = none) (hdst : o.dst = none) (k : Nat) (hk : k < ps.length) (hps : ps[k] = i) (hnd : ps.Nodup)
    (hw : k = 0 ∨ ∃ e ∈ o.after, Region.binds .any e = true ∧ some e.on = ps[k - 1]?)
    (h : ∀ (a : Act), (∀ t, (∀ (j : Nat) (o : Oper), ops[j]? = some o → o.dst ≠ some t) → a.tmps[t]? = a0.tmps[t]?) →
      (∀ e ∈ o.after, Region.binds .any e = true → ∀ (oj : Oper) (d : Tmp), ops[e.on]? = some oj → oj.dst = some d → ∃ v, a.tmps[d]? = some v ∧ R e.on v) → (execOp a.eval o).run P (us k) = .ok .skip (us (k + 1))) : MonoKS P ops R a0 (PhN ps us) Q i o :=
  ⟨hg, fun a w listed hJ hu hall hsz hdf hkk hgot => by
    obtain ⟨k', h1, h2, h3⟩ := hJ
    obtain ⟨hif, _⟩ := getD_tf hu
    have hle : k' ≤ k := by
      have := (h3 k hk).2
      rw [hps, hif] at this
      have : ¬ k < k' := fun h => by have := this.2 h; cases this
      omega
    have hge : k ≤ k' := by
      rcases hw with h0 | ⟨e, he, hb, heq⟩
      · omega
      · rcases Nat.eq_zero_or_pos k with h0 | h0
        · omega
        · rw [List.getElem?_eq_getElem (by omega)] at heq
          have hd := hall e he hb
          rw [Option.some.inj heq] at hd
          have := (h3 (k - 1) (by omega)).2.1 hd
          omega
    obtain rfl : k = k' := by omega
    subst h2
    have hr := h a hkk hgot
    unfold Oper.wp
    rw [hr]
    refine ⟨undef, by rw [hdst], ⟨k + 1, hk, rfl, fun j hj => ?_⟩, fun d h0 => by rw [hdst] at h0; cases h0⟩
    obtain ⟨h4, h5⟩ := h3 j hj
    refine ⟨by simpa using h4, ?_⟩
    by_cases e : j = k
    · subst e
      rw [hps] at h4 ⊢
      exact ⟨fun _ => by omega, fun _ => getD_self h4⟩
    · have hne : i ≠ ps[j] := fun e2 => e (((List.getElem_inj hnd).1 (e2.symm.trans hps.symm)))
      rw [getD_set_ne false hne, h5]
      omega⟩
end
end Go.Proofs.Ythadlpkdfnonjaa
namespace Go.Proofs.Ythadlpkdfnonjaa
open Go.RowKit
set_option linter.unusedVariables false
set_option linter.unusedSimpArgs false
set_option linter.unnecessarySimpa false
set_option maxRecDepth 100000
/-- What a call keeps: the blocks that X names. -/
structure KpB (X : Nat → Prop) (W W' : World) : Prop where
  os : W'.os = W.os
  tape : W'.tape = W.tape
  output : W'.output = W.output
  size : W.heap.size ≤ W'.heap.size
  block : ∀ b, X b → W'.heap[b]? = W.heap[b]?
theorem KpB.refl (X : Nat → Prop) (W : World) : KpB X W W := ⟨rfl, rfl, rfl, Nat.le_refl _, fun _ _ => rfl⟩
theorem KpB.trans {X : Nat → Prop} {a b c : World} (h : KpB X a b) (k : KpB X b c) : KpB X a c :=
  ⟨k.os.trans h.os, k.tape.trans h.tape, k.output.trans h.output, Nat.le_trans h.size k.size, fun i hi => (k.block i hi).trans (h.block i hi)⟩
theorem KpB.of {X : Nat → Prop} {W W' : World} (hX : ∀ b, X b → b < W.heap.size) (hb : Below W.heap.size W W') : KpB X W W' :=
  ⟨hb.os, hb.tape, hb.output, hb.size, fun b h => hb.block b (hX b h)⟩
theorem KpB.grown {X : Nat → Prop} {W W' : World} {row : Option Nat} (hX : ∀ b, X b → b < W.heap.size ∧ some b ≠ row) (hb : W.grownBy W' row) : KpB X W W' :=
  ⟨hb.os, hb.tape, hb.output, hb.size, fun b h => hb.block b (hX b h).1 (hX b h).2⟩
theorem KpB.less {X Y : Nat → Prop} {W W' : World} (h : KpB X W W') (hY : ∀ b, Y b → X b) : KpB Y W W' := ⟨h.os, h.tape, h.output, h.size, fun b hb => h.block b (hY b hb)⟩
theorem KpB.below {X : Nat → Prop} {W W' : World} (h : KpB X W W') {n : Nat} (hX : ∀ b, b < n → X b) : Below n W W' := ⟨h.os, h.tape, h.output, h.size, fun b hb => h.block b (hX b hb)⟩
theorem KpB.blk {X : Nat → Prop} {W W' : World} (h : KpB X W W') {g : Nat} (hg : X g) {t : TypeId} {cs : Array Value} (hB : Blk W g t cs) : Blk W' g t cs := (h.block g hg).trans hB
theorem KpB.cell {X : Nat → Prop} {W W' : World} (h : KpB X W W') {g : Nat} (hg : X g) (i : Nat) : W'.cell? ⟨g, i, none⟩ = W.cell? ⟨g, i, none⟩ := by
  simp only [World.cell?, h.block g hg]
theorem KpB.bl {X : Nat → Prop} {W W' : World} (h : KpB X W W') {A : Option Addr} {n : Nat} {B : Nat → Bx} (hB : BxR W A n B) (hX : ∀ b o, A = some ⟨b, o, none⟩ → X b) : BxR W' A n B := fun hn => by
  obtain ⟨b, off, e, hl, hc⟩ := hB hn
  exact ⟨b, off, e, Nat.lt_of_lt_of_le hl h.size, fun i hi j hj => (h.cell (hX b off e) _).trans (hc i hi j hj)⟩
theorem KpB.il {X : Nat → Prop} {W W' : World} (h : KpB X W W') {A : Option Addr} {l : List Int} (hI : IL W A l) (hX : ∀ b o, A = some ⟨b, o, none⟩ → X b) : IL W' A l := fun hn => by
  obtain ⟨b, off, e, hl, hc⟩ := hI hn
  exact ⟨b, off, e, Nat.lt_of_lt_of_le hl h.size, fun i hi => (h.cell (hX b off e) _).trans (hc i hi)⟩
theorem KpB.own {X : Nat → Prop} {W W' : World} (h : KpB X W W') {base : Nat} {e : TypeId} {size n : Nat} {v : Value} {xs : List Value} (hO : W.ownsRow base e size v n xs) (hX : ∀ b, v.ownBlock = some b → X b) : W'.ownsRow base e size v n xs := by
  obtain ⟨h0, h1 | ⟨g, cap, cur, h1, h2, h3, h4⟩⟩ := hO
  · exact ⟨h0, .inl h1⟩
  · refine ⟨h0, .inr ⟨g, cap, cur, h1, h2, (h.block g (hX g (by rw [h1]; rfl))).trans h3, h4⟩⟩
theorem bgrown_set (W : World) (g i : Nat) (u : Value) : W.grownBy (W.setCell ⟨g, i, none⟩ u) (some g) := by
  refine ⟨rfl, rfl, rfl, by simp [World.setCell], fun k hk hne => ?_⟩
  simp only [World.setCell, Array.getElem?_modify]
  rw [if_neg (fun e => hne (by rw [e]))]
/-! rows of one's own -/
theorem bown_form {W : World} {base : Nat} {e : TypeId} {size n : Nat} {v : Value} {xs : List Value} (h : W.ownsRow base e size v n xs) : ∃ A c, v = .slice A n c := by
  rcases h.2 with ⟨h1, h2⟩ | ⟨g, cap, cur, h1, _⟩
  · subst h2; exact ⟨none, 0, h1⟩
  · exact ⟨_, _, h1⟩
theorem bown_lay {W W' : World} {base : Nat} {e : TypeId} {size n : Nat} {v : Value} {xs : List Value} (h : W.ownsRow base e size v n xs) (hb : Below W.heap.size W W') : W'.ownsRow base e size v n xs := by
  obtain ⟨h0, h | ⟨g, cap, cur, h1, h2, h3, h4⟩⟩ := h
  · exact ⟨h0, .inl h⟩
  · exact ⟨h0, .inr ⟨g, cap, cur, h1, h2, (hb.block g (Array.getElem?_eq_some_iff.1 h3).1).trans h3, h4⟩⟩
theorem bown_block {W : World} {base : Nat} {e : TypeId} {size n : Nat} {v : Value} {xs : List Value} (h : W.ownsRow base e size v n xs) : ∀ k, v.ownBlock = some k → (base ≤ k ∧ k < W.heap.size) ∧ ∃ cs, Blk W k e cs := by
  intro k hk
  rcases h.2 with ⟨rfl, _⟩ | ⟨g, cap, cur, rfl, h1, h2, _⟩
  · cases hk
  · cases hk; exact ⟨⟨h1, (Array.getElem?_eq_some_iff.1 h2).1⟩, cur, h2⟩
theorem bown_ne {W : World} {base : Nat} {T : TypeId} {sz n : Nat} {v : Value} {xs : List Value} (h : W.ownsRow base T sz v n xs) {g : Nat} {t : TypeId} {cs : Array Value} (hB : Blk W g t cs) (ht : t ≠ T) : some g ≠ v.ownBlock := fun e => by
  obtain ⟨_, cs', h'⟩ := bown_block h g e.symm
  exact hB.ne_ h' ht rfl
theorem bown_put {W : World} {base : Nat} {e : TypeId} {sz n : Nat} {v : Value} {xs : List Value} (h : W.ownsRow base e sz v n xs) {g : Nat} (hv : v.ownBlock = some g) {j : Nat} (hj : j < n * sz) (u : Value) : (W.setCell ⟨g, j, none⟩ u).ownsRow base e sz v n (xs.set j u) := by
  obtain ⟨hl, ⟨rfl, _⟩ | ⟨g', cap, cur, rfl, hb, hh, hc, hm, hs, ht⟩⟩ := h
  · simp [Value.ownBlock] at hv
  · obtain rfl : g' = g := by simpa [Value.ownBlock] using hv
    refine ⟨by rw [List.length_set]; exact hl, .inr ⟨g', cap, cur.setIfInBounds j u, rfl, hb, (Blk.set (W := W) (g := g') (t := e) (cs := cur) hh j u), hc, hm, by simpa using hs, ?_⟩⟩
    rw [Array.toList_setIfInBounds, List.take_set, ht]
/-! nodes -/
def nd1 (d : Nd) : List Value := [.int .i64 d.b.lo.x, .int .i64 d.b.lo.y, .int .i64 d.b.lo.z, .int .i64 d.b.hi.x, .int .i64 d.b.hi.y, .int .i64 d.b.hi.z, .int .i64 (d.l : Int), .int .i64 (d.r : Int), .int .i64 (d.f : Int), .int .i64 (d.c : Int)]
def ndC (N : List Nd) : List Value := N.flatMap nd1
theorem ndC_len : ∀ N : List Nd, (ndC N).length = N.length * 10
  | [] => rfl
  | d :: N => by
    have := ndC_len N
    show (nd1 d ++ ndC N).length = _
    rw [List.length_append, this, List.length_cons]
    show 10 + N.length * 10 = (N.length + 1) * 10
    omega
theorem ndC_at : ∀ (N : List Nd) (i : Nat) (h : i < N.length) (j : Nat), j < 10 → (ndC N)[i * 10 + j]? = (nd1 N[i])[j]?
  | d :: N, 0, _, j, hj => by
    show (nd1 d ++ ndC N)[0 * 10 + j]? = _
    rw [Nat.zero_mul, Nat.zero_add, List.getElem?_append_left (by show j < 10; omega)]
    rfl
  | d :: N, i + 1, h, j, hj => by
    show (nd1 d ++ ndC N)[(i + 1) * 10 + j]? = _
    rw [List.getElem?_append_right (by show 10 ≤ _; omega)]
    have e : (i + 1) * 10 + j - (nd1 d).length = i * 10 + j := by show (i + 1) * 10 + j - 10 = _; omega
    rw [e, ndC_at N i (by simpa using h) j hj]
    rfl
theorem ndC_app (l m : List Nd) : ndC (l ++ m) = ndC l ++ ndC m := by simp [ndC, List.flatMap_append]
theorem ndC_one (l : List Nd) : ∀ u ∈ ndC l, u.oneCell' = true := fun u hu => by
  unfold ndC at hu
  obtain ⟨s, _, h⟩ := List.mem_flatMap.1 hu
  simp [nd1] at h
  rcases h with rfl | rfl | rfl | rfl | rfl | rfl | rfl | rfl | rfl | rfl <;> rfl
theorem ndC_set : ∀ (N : List Nd) (i : Nat) (h : i < N.length) (j : Nat) (hj : j < 10) (u : Value) (d : Nd), nd1 d = (nd1 N[i]).set j u → (ndC N).set (i * 10 + j) u = ndC (N.set i d)
  | e :: N, 0, _, j, hj, u, d, hd => by
    show (nd1 e ++ ndC N).set (0 * 10 + j) u = nd1 d ++ ndC N
    rw [Nat.zero_mul, Nat.zero_add, List.set_append_left _ _ (by show j < 10; omega), hd]
    rfl
  | e :: N, i + 1, h, j, hj, u, d, hd => by
    have ih := ndC_set N i (by simpa using h) j hj u d hd
    show (nd1 e ++ ndC N).set ((i + 1) * 10 + j) u = nd1 e ++ ndC (N.set i d)
    rw [List.set_append_right _ _ (by show 10 ≤ _; omega)]
    have e2 : (i + 1) * 10 + j - (nd1 e).length = i * 10 + j := by show (i + 1) * 10 + j - 10 = _; omega
    rw [e2, ih]
def znC (L : List Nat) : List Value := L.map fun k : Nat => .int .i64 (k : Int)
theorem znC_len (L : List Nat) : (znC L).length = L.length := List.length_map _
theorem znC_one (l : List Nat) : ∀ u ∈ znC l, u.oneCell' = true := fun u hu => by
  obtain ⟨s, _, rfl⟩ := List.mem_map.1 hu
  rfl
theorem znC_app (l m : List Nat) : znC (l ++ m) = znC l ++ znC m := by simp [znC]
theorem znC_get (L : List Nat) (i : Nat) (h : i < L.length) : (znC L)[i]? = some (.int .i64 (L[i] : Int)) := by simp [znC, h]
theorem bil_own {W : World} {base : Nat} {A : Option Addr} {c : Nat} {L : List Nat} (h : W.ownsRow base 3 1 (.slice A L.length c) L.length (znC L)) : IL W A (zL L) := fun hn => by
  rw [zL_len] at hn
  obtain ⟨_, h1 | ⟨g, cap, cur, h1, h2, h3, _⟩⟩ := id h
  · omega
  · simp only [Value.slice.injEq] at h1
    obtain ⟨rfl, _, rfl⟩ := h1
    refine ⟨g, 0, rfl, (Array.getElem?_eq_some_iff.1 h3).1, fun i hi => ?_⟩
    rw [zL_len] at hi
    rw [zL_get, Nat.zero_add, h.cellAt i (by omega), znC_get L i hi]
theorem infoNdB : (Try.prog.info? 66).map (fun i => (i.zero, i.size, i.bytes)) = some (some (.agg #[.int .i64 0, .int .i64 0, .int .i64 0, .int .i64 0, .int .i64 0, .int .i64 0, .int .i64 0, .int .i64 0, .int .i64 0, .int .i64 0]), 10, 80) := by kernel_rfl
theorem infoIntB : (Try.prog.info? 3).map (fun i => (i.zero, i.size, i.bytes)) = some (some (.int .i64 0), 1, 8) := by kernel_rfl
theorem binfo_of {t : TypeId} {z : Value} {s b : Nat} (h : (Try.prog.info? t).map (fun i => (i.zero, i.size, i.bytes)) = some (some z, s, b)) : ∃ i : TypeInfo, Try.prog.info? t = some i ∧ i.zero = some z ∧ i.size = s ∧ i.bytes = b := by
  cases e : Try.prog.info? t with
  | none => rw [e] at h; cases h
  | some i =>
    rw [e] at h
    simp only [Option.map_some, Option.some.injEq, Prod.mk.injEq] at h
    exact ⟨i, rfl, h.1, h.2.1, h.2.2⟩
theorem brun_app {P : Program} {a : Act} {w w' : World} {o : Oper} {v v' x : Value} (s y : Operand) (t : TypeId) (ho : o.op = .call { callee := .builtin .append, args := #[s, y], argTypes := #[t, t] }) (hs : a.eval s = v) (hx : a.eval y = x) (hr : (Builtin.append_ #[t, t] o.type #[v, x]).run P w = .ok v' w') :
    (execOp a.eval o).run P w = .ok (.value v') w' := by
  unfold execOp
  simp only [ho, resolve, invoke, builtin, Sem.run_bind, Sem.run_pure, Result.andThen_ok, List.map_toArray, List.map_cons, List.map_nil, hs, hx, hr]
/-- One node more. -/
theorem appN {base : Nat} {W : World} {N : List Nd} {v : Value} (h : W.ownsRow base 66 10 v N.length (ndC N)) (hn : N.length < 1000000) (hw : base ≤ W.heap.size) (d : Nd) (b : Nat) (hd : Blk W b 66 (nd1 d).toArray) (ty : TypeId) :
    ∃ A c u2, (Builtin.append_ #[53, 53] ty #[v, .slice (some ⟨b, 0, none⟩) 1 1]).run Try.prog W = .ok (.slice A (N.length + 1) c) u2 ∧ u2.ownsRow base 66 10 (.slice A (N.length + 1) c) (N ++ [d]).length (ndC (N ++ [d])) ∧ W.grownBy u2 v.ownBlock ∧ ((Value.slice A (N.length + 1) c).ownBlock = v.ownBlock ∨ (Value.slice A (N.length + 1) c).ownBlock = some W.heap.size) := by
  obtain ⟨i0, hi0, hz0, hz1, hz2⟩ := binfo_of infoNdB
  obtain ⟨v', u2, hr, h1, h2, h3, h4⟩ := run_append_own_at (P := Try.prog) (w := W) base 53 ty 66 i0 _ 10 80 Try.underlying53 hi0 hz0 hz1 hz2 rfl (by omega) v N.length (ndC N) h ⟨b, 0, none⟩ 1 1 (ndC [d]) (ndC_len [d])
    (fun j u hj => by
      have e : ((⟨b, 0, none⟩ : Addr).add j) = ⟨b, j, none⟩ := by simp [Addr.add]; intro h; exact h.symm
      rw [e, hd.cell]
      simpa [ndC] using hj) (ndC_one [d]) (by unfold maxLen; omega) (by omega) hw
  obtain ⟨A, c, rfl⟩ := bown_form h1
  refine ⟨A, c, u2, hr, ?_, h2, h4⟩
  rw [List.length_append, ndC_app]
  exact h1
/-- Numbers that lie somewhere, appended. -/
theorem appI {base : Nat} {W : World} {L : List Nat} {v : Value} (h : W.ownsRow base 3 1 v L.length (znC L)) (hn : L.length < 1000000) (hw : base ≤ W.heap.size) (M : List Nat) (hM : M.length < 1000000) (b off c0 : Nat) (hd : ∀ j (hj : j < M.length), W.cell? ⟨b, off + j, none⟩ = some (.int .i64 (M[j] : Int))) (ty : TypeId) :
    ∃ A c u2, (Builtin.append_ #[54, 54] ty #[v, .slice (some ⟨b, off, none⟩) M.length c0]).run Try.prog W = .ok (.slice A (L.length + M.length) c) u2 ∧ u2.ownsRow base 3 1 (.slice A (L.length + M.length) c) (L ++ M).length (znC (L ++ M)) ∧ W.grownBy u2 v.ownBlock ∧ ((Value.slice A (L.length + M.length) c).ownBlock = v.ownBlock ∨ (Value.slice A (L.length + M.length) c).ownBlock = some W.heap.size) := by
  obtain ⟨i0, hi0, hz0, hz1, hz2⟩ := binfo_of infoIntB
  obtain ⟨v', u2, hr, h1, h2, h3, h4⟩ := run_append_own_at (P := Try.prog) (w := W) base 54 ty 3 i0 _ 1 8 Try.underlying54 hi0 hz0 hz1 hz2 rfl (by omega) v L.length (znC L) h ⟨b, off, none⟩ M.length c0 (znC M) (by rw [znC_len]; omega)
    (fun j u hj => by
      have e : ((⟨b, off, none⟩ : Addr).add j) = ⟨b, off + j, none⟩ := by simp [Addr.add]
      have hjl : j < M.length := by have := (List.getElem?_eq_some_iff.1 hj).1; rwa [znC_len] at this
      rw [e, hd j hjl, ← znC_get M j hjl, hj]) (znC_one M) (by unfold maxLen; omega) (by omega) hw
  obtain ⟨A, c, rfl⟩ := bown_form h1
  refine ⟨A, c, u2, hr, ?_, h2, h4⟩
  rw [List.length_append, znC_app]
  exact h1
section
variable {ops : Array Oper} {rest : List Oper} {o : Oper} {a : Act} {Q : Exit → Act → World → Prop}
theorem wpL_appI (base : Nat) (W : World) (L : List Nat) (n : Nat) (hnL : n = L.length) (v : Value) (h : W.ownsRow base 3 1 v n (znC L)) (hn : n < 1000000) (hw : base ≤ W.heap.size) (M : List Nat) (m : Nat) (hm : m = M.length) (hM : m < 1000000) (b off c0 : Nat) (hd : ∀ j (hj : j < M.length), W.cell? ⟨b, off + j, none⟩ = some (.int .i64 (M[j] : Int)))
    (hg : o.guard = none) (x y : Operand) (ho : o.op = .call { callee := .builtin .append, args := #[x, y], argTypes := #[54, 54] }) (hx : a.eval x = v) (hy : a.eval y = .slice (some ⟨b, off, none⟩) m c0)
    (K : ∀ A c u2, u2.ownsRow base 3 1 (.slice A (n + m) c) (n + m) (znC (L ++ M)) → W.grownBy u2 v.ownBlock → ((Value.slice A (n + m) c).ownBlock = v.ownBlock ∨ (Value.slice A (n + m) c).ownBlock = some W.heap.size) → wpList Try.prog ops Q rest (a.put o.dst (.slice A (n + m) c)) u2) : wpList Try.prog ops Q (o :: rest) a W := by
  subst hnL
  subst hm
  obtain ⟨A, c, u2, hr, h1, h2, h3⟩ := appI h hn hw M hM b off c0 hd o.type
  refine wpList_plain hg fun K' hK' => ?_
  unfold Oper.wp
  rw [brun_app x y 54 ho hx hy hr]
  refine hK' _ _ ?_
  exact K A c u2 (by rw [List.length_append] at h1; exact h1) h2 h3
end
end Go.Proofs.Ythadlpkdfnonjaa
namespace Go.Proofs.Ythadlpkdfnonjaa.D
open Go.RowKit
set_option linter.unusedVariables false
set_option linter.unusedSimpArgs false
variable {P : Program}
structure BelD (B : Nat) (w w' : World) : Prop where
  bel : Below B w w'
  drw : w.drawn ≤ w'.drawn
theorem BelD.refl (B : Nat) (w : World) : BelD B w w := ⟨Below.refl _ _, Nat.le_refl _⟩
theorem BelD.trans {B : Nat} {a b c : World} (h : BelD B a b) (k : BelD B b c) : BelD B a c := ⟨h.bel.trans k.bel, Nat.le_trans h.drw k.drw⟩
theorem BelD.mono {B B' : Nat} {a b : World} (h : BelD B a b) (hb : B' ≤ B) : BelD B' a b := ⟨h.bel.mono hb, h.drw⟩
theorem BelD.size {B : Nat} {a b : World} (h : BelD B a b) : a.heap.size ≤ b.heap.size := h.bel.size
theorem BelD.cell {B : Nat} {a b : World} (h : BelD B a b) {p : Addr} (hp : p.block < B) : b.cell? p = a.cell? p := h.bel.cell hp
theorem BelD.frozen {B : Nat} {a b : World} (h : BelD B a b) {p : Addr} (hp : p.block < B) : b.frozen? p = a.frozen? p := h.bel.frozen hp
theorem BelD.block {B : Nat} {a b : World} (h : BelD B a b) (k : Nat) (hk : k < B) : b.heap[k]? = a.heap[k]? := h.bel.block k hk
theorem bel_alloc {a w : World} (h : BelD a.heap.size a w) (o : Obj) : BelD a.heap.size a (w.alloc o) := ⟨Go.Proofs.Ythadlpkdfnonjaa.bel_alloc h.bel o, h.drw⟩
theorem bel_trans {a w w' : World} (h : BelD a.heap.size a w) (k : BelD w.heap.size w w') : BelD a.heap.size a w' := h.trans (k.mono h.size)
theorem bel_set {a w : World} (h : BelD a.heap.size a w) {p : Addr} (hp : a.heap.size ≤ p.block) (u : Value) : BelD a.heap.size a (w.setCell p u) := ⟨Go.Proofs.Ythadlpkdfnonjaa.bel_set h.bel hp u, h.drw⟩
theorem bel_drew {a w : World} (h : BelD a.heap.size a w) : BelD a.heap.size a w.drew := ⟨Go.Proofs.Ythadlpkdfnonjaa.bel_drew h.bel, Nat.le_trans h.drw (Nat.le_add_right _ _)⟩
/-- A step to a world in which all that was there is as it was. -/
structure More where
  «to» : World → World
  kept : ∀ w, BelD w.heap.size w («to» w)
instance more_some : Nonempty More := ⟨⟨fun w => w, fun w => BelD.refl _ _⟩⟩
def grow (w : World) (x : More) : World := x.to w
theorem bel_grow {a w : World} (h : BelD a.heap.size a w) (x : More) : BelD a.heap.size a (grow w x) := bel_trans h (x.kept w)
open Classical in
noncomputable def More.of (w w' : World) (h : BelD w.heap.size w w') : More := ⟨fun v => if v = w then w' else v, fun v => by
  by_cases e : v = w
  · rw [if_pos e, e]; exact h
  · rw [if_neg e]; exact BelD.refl _ _⟩
theorem grow_mk (w w' : World) (h : BelD w.heap.size w w') : grow w (More.of w w' h) = w' := by unfold grow More.of; simp
theorem grow_of {w w' : World} (h : BelD w.heap.size w w') : ∃ x, w' = grow w x := ⟨More.of w w' h, (grow_mk w w' h).symm⟩
def More.then (x y : More) : More := ⟨fun w => y.to (x.to w), fun w => bel_trans (x.kept w) (y.kept _)⟩
theorem bel_then {a w : World} {x : More} (h : BelD a.heap.size a (grow w x)) (y : More) : BelD a.heap.size a (grow w (x.then y)) := bel_grow h y
theorem grow_grow (w : World) (x y : More) : grow (grow w x) y = grow w (x.then y) := rfl
/-- What is behind the blocks that w had: of that nothing is said. -/
def More.top (x : More) (w : World) : Nat := (x.to w).heap.size
def More.cellAt (x : More) (w : World) (n i : Nat) : Option Value := (x.to w).cell? ⟨n, i, none⟩
def More.frozenAt (x : More) (w : World) (n i : Nat) : Bool := (x.to w).frozen? ⟨n, i, none⟩
theorem grow_cell (w : World) (x : More) (n i : Nat) : (grow w x).cell? ⟨n, i, none⟩ = if n < w.heap.size then w.cell? ⟨n, i, none⟩ else x.cellAt w n i := by
  split
  · rename_i h; exact (x.kept w).cell (p := ⟨n, i, none⟩) h
  · rfl
theorem grow_frozen (w : World) (x : More) (n i : Nat) : (grow w x).frozen? ⟨n, i, none⟩ = if n < w.heap.size then w.frozen? ⟨n, i, none⟩ else x.frozenAt w n i := by
  split
  · rename_i h; exact (x.kept w).frozen (p := ⟨n, i, none⟩) h
  · rfl
theorem grow_size (w : World) (x : More) : (grow w x).heap.size = x.top w := rfl
theorem top_le (w : World) (x : More) : w.heap.size ≤ x.top w := (x.kept w).size
theorem grow_lt (w : World) (x : More) (n : Nat) : (n < (grow w x).heap.size) = (n < w.heap.size ∨ n < x.top w) := by
  have h : w.heap.size ≤ (x.to w).heap.size := (x.kept w).size
  have e : (grow w x).heap.size = (x.to w).heap.size := rfl
  have e2 : x.top w = (x.to w).heap.size := rfl
  rw [e, e2]
  exact propext ⟨fun h => .inr h, fun h => by omega⟩
theorem grow_lt1 (w : World) (x : More) (n : Nat) : (n < (grow w x).heap.size + 1) = (n < w.heap.size ∨ n < x.top w + 1) := by
  have h : w.heap.size ≤ (x.to w).heap.size := (x.kept w).size
  have e : (grow w x).heap.size = (x.to w).heap.size := rfl
  have e2 : x.top w = (x.to w).heap.size := rfl
  rw [e, e2]
  exact propext ⟨fun h => .inr h, fun h => by omega⟩
theorem grow_lt2 (w : World) (x : More) (n : Nat) : (n < (grow w x).heap.size + 1 + 1) = (n < w.heap.size ∨ n < x.top w + 1 + 1) := by
  have h : w.heap.size ≤ (x.to w).heap.size := (x.kept w).size
  have e : (grow w x).heap.size = (x.to w).heap.size := rfl
  have e2 : x.top w = (x.to w).heap.size := rfl
  rw [e, e2]
  exact propext ⟨fun h => .inr h, fun h => by omega⟩
theorem grow_lt3 (w : World) (x : More) (n : Nat) : (n < (grow w x).heap.size + 1 + 1 + 1) = (n < w.heap.size ∨ n < x.top w + 1 + 1 + 1) := by
  have h : w.heap.size ≤ (x.to w).heap.size := (x.kept w).size
  have e : (grow w x).heap.size = (x.to w).heap.size := rfl
  have e2 : x.top w = (x.to w).heap.size := rfl
  rw [e, e2]
  exact propext ⟨fun h => .inr h, fun h => by omega⟩
theorem grow_lt4 (w : World) (x : More) (n : Nat) : (n < (grow w x).heap.size + 1 + 1 + 1 + 1) = (n < w.heap.size ∨ n < x.top w + 1 + 1 + 1 + 1) := by
  have h : w.heap.size ≤ (x.to w).heap.size := (x.kept w).size
  have e : (grow w x).heap.size = (x.to w).heap.size := rfl
  have e2 : x.top w = (x.to w).heap.size := rfl
  rw [e, e2]
  exact propext ⟨fun h => .inr h, fun h => by omega⟩
theorem grow_lt5 (w : World) (x : More) (n : Nat) : (n < (grow w x).heap.size + 1 + 1 + 1 + 1 + 1) = (n < w.heap.size ∨ n < x.top w + 1 + 1 + 1 + 1 + 1) := by
  have h : w.heap.size ≤ (x.to w).heap.size := (x.kept w).size
  have e : (grow w x).heap.size = (x.to w).heap.size := rfl
  have e2 : x.top w = (x.to w).heap.size := rfl
  rw [e, e2]
  exact propext ⟨fun h => .inr h, fun h => by omega⟩
theorem grow_lt6 (w : World) (x : More) (n : Nat) : (n < (grow w x).heap.size + 1 + 1 + 1 + 1 + 1 + 1) = (n < w.heap.size ∨ n < x.top w + 1 + 1 + 1 + 1 + 1 + 1) := by
  have h : w.heap.size ≤ (x.to w).heap.size := (x.kept w).size
  have e : (grow w x).heap.size = (x.to w).heap.size := rfl
  have e2 : x.top w = (x.to w).heap.size := rfl
  rw [e, e2]
  exact propext ⟨fun h => .inr h, fun h => by omega⟩
theorem grow_lt7 (w : World) (x : More) (n : Nat) : (n < (grow w x).heap.size + 1 + 1 + 1 + 1 + 1 + 1 + 1) = (n < w.heap.size ∨ n < x.top w + 1 + 1 + 1 + 1 + 1 + 1 + 1) := by
  have h : w.heap.size ≤ (x.to w).heap.size := (x.kept w).size
  have e : (grow w x).heap.size = (x.to w).heap.size := rfl
  have e2 : x.top w = (x.to w).heap.size := rfl
  rw [e, e2]
  exact propext ⟨fun h => .inr h, fun h => by omega⟩
theorem grow_lt8 (w : World) (x : More) (n : Nat) : (n < (grow w x).heap.size + 1 + 1 + 1 + 1 + 1 + 1 + 1 + 1) = (n < w.heap.size ∨ n < x.top w + 1 + 1 + 1 + 1 + 1 + 1 + 1 + 1) := by
  have h : w.heap.size ≤ (x.to w).heap.size := (x.kept w).size
  have e : (grow w x).heap.size = (x.to w).heap.size := rfl
  have e2 : x.top w = (x.to w).heap.size := rfl
  rw [e, e2]
  exact propext ⟨fun h => .inr h, fun h => by omega⟩
theorem grow_le (w : World) (x : More) (n : Nat) : (n ≤ (grow w x).heap.size) = (n ≤ w.heap.size ∨ n ≤ x.top w) := by
  have h : w.heap.size ≤ (x.to w).heap.size := (x.kept w).size
  have e : (grow w x).heap.size = (x.to w).heap.size := rfl
  have e2 : x.top w = (x.to w).heap.size := rfl
  rw [e, e2]
  exact propext ⟨fun h => .inr h, fun h => by omega⟩
theorem grow_self1 (w : World) (x : More) : ((grow w x).heap.size < x.top w + 1) = True := eq_true (Nat.lt_succ_self _)
theorem grow_self2 (w : World) (x : More) : ((grow w x).heap.size < x.top w + 1 + 1) = True := eq_true (Nat.lt_succ_of_lt (Nat.lt_succ_self _))
theorem grow_self3 (w : World) (x : More) : ((grow w x).heap.size < x.top w + 1 + 1 + 1) = True := eq_true (Nat.lt_succ_of_lt (Nat.lt_succ_of_lt (Nat.lt_succ_self _)))
/-- In every world the call answers v, and all that was there is as it was. -/
def Gives (P : Program) (f : FuncId) (args : Array Value) (v : Value) : Prop := ∀ w : World, Calls P f args w fun e w' => e = .returned v ∧ ∃ x, w' = grow w x
theorem Gives.at_ {f : FuncId} {args : Array Value} {v : Value} (h : Gives P f args v) (w : World) : Calls P f args w fun e w' => e = .returned v ∧ ∃ x, w' = grow w x := h w
theorem Gives.mk {f : FuncId} {args : Array Value} {v : Value} (h : ∀ w : World, Calls P f args w fun e w' => e = .returned v ∧ BelD w.heap.size w w') : Gives P f args v :=
  fun w => (h w).mono fun _ _ ⟨he, hb⟩ => ⟨he, grow_of hb⟩
theorem Gives.bel {f : FuncId} {args : Array Value} {v : Value} (h : Gives P f args v) (w : World) : Calls P f args w fun e w' => e = .returned v ∧ BelD w.heap.size w w' :=
  (h w).mono fun _ _ ⟨he, x, hx⟩ => ⟨he, hx ▸ x.kept w⟩
theorem Gives.quiet {f : FuncId} {args : Array Value} {v : Value} (h : Gives P f args v) {w : World} (x : More) :
    Calls P f args (grow w x) fun e w'' => e = .returned v ∧ ∃ y, w'' = grow w y :=
  (h (grow w x)).mono fun _ _ ⟨he, y, hy⟩ => ⟨he, x.then y, hy⟩
theorem Gives.quiet2 {f : FuncId} {args : Array Value} {v : Value} (h : Gives P f args v) {w : World} (x y : More) :
    Calls P f args (grow w (x.then y)) fun e w'' => e = .returned v ∧ ∃ z, w'' = grow w (x.then z) :=
  (h (grow w (x.then y))).mono fun _ _ ⟨he, z, hz⟩ => ⟨he, y.then z, hz⟩
/-- A region whose operations only read or are such calls: one walk in the order of the text. -/
theorem wp_region_grow {id : Nat} {Q : Exit → Act → World → Prop} {a : Act} {w : World} {l : List Oper} (hm : P.follows .mixedOrders = true) (hB : Region.lexB .any l.toArray = true)
    (h : wpQuiet P l.toArray (fun w' => ∃ x, w' = grow w x) (fun a' => ∀ w', (∃ x, w' = grow w x) → Q .normal a' w') l a) : (Code.region id l.toArray true).wp P Q a w :=
  wp_region_quiet (C := fun w' => ∃ x, w' = grow w x) hm hB (grow_of (bel_drew (BelD.refl _ _))) (by simpa using h)
attribute [go_sem] grow_self1 grow_self2 grow_self3
attribute [go_sem] grow_grow grow_cell grow_frozen grow_lt grow_le grow_lt1 grow_lt2 grow_lt3 grow_lt4 grow_lt5 grow_lt6 grow_lt7 grow_lt8
end Go.Proofs.Ythadlpkdfnonjaa.D
namespace Go.Proofs.Ythadlpkdfnonjaa.D
open Go.RowKit
set_option linter.unusedVariables false
set_option linter.unusedSimpArgs false
def More.none_ : More := ⟨fun w => w, fun w => BelD.refl _ _⟩
section
variable {P : Program} {ops : Array Oper} {w : World} {md : Region.Mode}
/-- From wherever the region has come, the operation answers v and leaves what was there. -/
def SureAt (P : Program) (o : Oper) (a : Act) (w : World) (v : Value) : Prop := ∀ x : More, o.quietAt P a (fun u => ∃ y, u = grow (grow w x) y) (grow w x) v
def Sure (P : Program) (ops : Array Oper) (w : World) (o : Oper) (v : Value) (a : Act) : Prop :=
  (Region.wanted o (yielded ops a.tmps) = true ∧ SureAt P o a w v) ∨ (Region.wanted o (yielded ops a.tmps) = false ∧ v = undef)
theorem Sure.of_same {o : Oper} {v : Value} {a a' : Act} (h : Sure P ops w o v a) (he : execOp a'.eval o = execOp a.eval o) (hw : Region.wanted o (yielded ops a'.tmps) = Region.wanted o (yielded ops a.tmps)) : Sure P ops w o v a' := by
  unfold Sure SureAt Oper.quietAt at *
  rw [he, hw]
  exact h
/-- What another operation, apart from it, has left makes no difference. -/
theorem Sure.put {o oj : Oper} {v u : Value} {a : Act} (h : Sure P ops w o v a) (hs : ∀ cs b, o.op ≠ .select cs b) (hd : ∀ d, oj.dst = some d → d ∉ o.looksAt ops) : Sure P ops w o v (a.put oj.dst u) :=
  h.of_same (execOp_put o hs a oj.dst u hd) (wanted_put o a oj.dst u hd)
theorem Sure.unput {o oj : Oper} {v u : Value} {a : Act} (h : Sure P ops w o v (a.put oj.dst u)) (hs : ∀ cs b, o.op ≠ .select cs b) (hd : ∀ d, oj.dst = some d → d ∉ o.looksAt ops) : Sure P ops w o v a :=
  h.of_same (execOp_put o hs a oj.dst u hd).symm (wanted_put o a oj.dst u hd).symm
def sureOp (P : Program) (ops : Array Oper) (w : World) (i : Nat) (K : Act → Prop) (a : Act) : Prop := ∃ o v, ops[i]? = some o ∧ Sure P ops w o v a ∧ K (a.put o.dst v)
/-- The one block that the region makes: its place in the region, its slot. -/
def pt (w : World) (x : More) : Value := .pointer (some ⟨(grow w x).heap.size, 0, none⟩)
/-- Where the region may be: nothing made yet; or the block made behind what x tells. -/
def At (w : World) (obj : Obj) : Option More → World → Prop
  | none, u => ∃ x, u = grow w x
  | some x, u => ∃ y, u = grow ((grow w x).alloc obj) y
theorem At.grows {obj : Obj} {s : Option More} {u : World} (h : At w obj s u) : ∃ x, u = grow w x := by
  cases s with
  | none => exact h
  | some x =>
    obtain ⟨y, rfl⟩ := h
    exact grow_of (bel_grow (bel_alloc (bel_grow (BelD.refl _ _) x) obj) y)
theorem At.on {obj : Obj} {s : Option More} {u : World} (h : At w obj s u) (y : More) : At w obj s (grow u y) := by
  cases s with
  | none => obtain ⟨x, rfl⟩ := h; exact ⟨x.then y, rfl⟩
  | some x => obtain ⟨z, rfl⟩ := h; exact ⟨z.then y, rfl⟩
variable {n N : Nat} {alc : Option Tmp} {obj : Obj} {L : Option More → Array Bool → Act → Prop}
def anyU (P : Program) (md : Region.Mode) (ops : Array Oper) (w : World) (n : Nat) (alc : Option Tmp) (L : Option More → Array Bool → Act → Prop) : Nat → Option More → Array Bool → Act → Prop
  | 0, s, listed, a => L s listed a
  | f + 1, s, listed, a => Region.ready md ops listed ≠ [] ∧ ∀ i ∈ Region.ready md ops listed,
      (i < n ∧ sureOp P ops w i (anyU P md ops w n alc L f s (listed.setIfInBounds i true)) a) ∨
      (i = n ∧ s = none ∧ ∃ d, alc = some d ∧ ∀ x, anyU P md ops w n alc L f (some x) (listed.setIfInBounds i true) (a.put (some d) (pt w x)))
/-- What the block's making does. -/
def Makes (P : Program) (ops : Array Oper) (n : Nat) (alc : Option Tmp) (obj : Obj) : Prop :=
  ∀ d, alc = some d → ∃ o, ops[n]? = some o ∧ o.dst = some d ∧ o.guard = none ∧ ∀ (a : Act) (u : World), (execOp a.eval o).run P u = .ok (.value (.pointer (some ⟨u.heap.size, 0, none⟩))) (u.alloc obj)
theorem any_sound {g : Nat} {Q' : Exit → Act → World → Prop} (hm : Makes P ops n alc obj) (hL : ∀ s listed a u, At w obj s u → L s listed a → wpAny P md ops Q' g listed a u) :
    ∀ (f : Nat) (s : Option More) (listed : Array Bool) (a : Act) (u : World), At w obj s u → anyU P md ops w n alc L f s listed a → wpAny P md ops Q' (f + g) listed a u
  | 0, s, listed, a, u, hu, h => by rw [Nat.zero_add]; exact hL _ _ _ _ hu h
  | f + 1, s, listed, a, u, hu, h => by
    rw [show f + 1 + g = (f + g) + 1 by omega]
    refine ⟨fun h0 => absurd h0 h.1, fun i hi => ?_⟩
    rcases h.2 i hi with ⟨_, o, v, ho, hy, hk⟩ | ⟨hin, hsn, d, hd, hk⟩
    · unfold wpOp
      simp only [ho]
      rcases hy with ⟨hw, hv⟩ | ⟨hw, rfl⟩
      · rw [if_pos hw]
        left
        obtain ⟨x, rfl⟩ := hu.grows
        have h3 := hv x
        unfold Oper.quietAt at h3
        unfold Oper.wp
        generalize (execOp a.eval o).run P (grow w x) = r at *
        cases r with
        | ok nx w' =>
          cases nx <;> simp only [Oper.quietUpon] at h3 <;> simp only [Oper.upon]
          case value u' =>
            obtain ⟨e1, e2⟩ := h3
            rw [e1, e2]
            exact any_sound hm hL f _ _ _ _ hu hk
          case skip =>
            obtain ⟨e1, e2⟩ := h3
            rw [e1, ← e2]
            exact any_sound hm hL f _ _ _ _ hu hk
          case enter fn args =>
            obtain ⟨e1, hc⟩ := h3
            rw [e1]
            exact hc.mono fun e w'' ⟨he, y, hy⟩ => by
              subst he hy
              exact any_sound hm hL f _ _ _ _ (hu.on y) hk
        | halt x w' => simp only [Oper.quietUpon] at h3
      · rw [if_neg (by rw [hw]; exact Bool.false_ne_true)]
        exact any_sound hm hL f _ _ _ _ hu hk
    · obtain ⟨o, ho, hdst, hg, hrun⟩ := hm d hd
      rw [hsn] at hu
      obtain ⟨x, hux⟩ := hu
      unfold wpOp
      rw [hin] at hk ⊢
      simp only [ho]
      rw [if_pos (by simp [Region.wanted, hg])]
      left
      unfold Oper.wp
      rw [hrun]
      simp only [Oper.upon, hdst]
      rw [hux]
      exact any_sound hm hL f (some x) _ _ _ ⟨More.none_, rfl⟩ (hk x)
theorem any_first {i : Nat} {oi : Oper} {v : Value} (hm : Makes P ops n alc obj) (hi : ops[i]? = some oi) (hsel : ∀ (j : Nat) (o : Oper) cs b, ops[j]? = some o → o.op ≠ .select cs b) (hin : i < n) (hnN : n ≤ N) (hN : ∀ d, alc = some d → N = n + 1)
    (hs : Region.sinkB md ops N = true) (hc : Region.chainB md ops N = true) (hNs : N < ops.size) (hdone : ∀ s listed a, L s listed a → ∀ j ∈ Region.ready md ops listed, N ≤ j) :
    ∀ (f : Nat) (s : Option More) (listed : Array Bool) (a : Act), HeadInv md ops N listed →
      (∀ j oj, ops[j]? = some oj → j ≠ i → listed.getD j true = false → (∀ e ∈ oj.after, Region.binds md e = true → e.on ≠ i) → oi.apart ops oj = true) →
      i ∈ Region.ready md ops listed → Sure P ops w oi v a →
      anyU P md ops w n alc L f s (listed.setIfInBounds i true) (a.put oi.dst v) → anyU P md ops w n alc L (f + 1) s listed a := by
  intro f
  induction f with
  | zero =>
    intro s listed a inv _ hr hy H
    have hun := (mem_ready.1 hr).1
    refine ⟨fun h => (by rw [h] at hr; cases hr), fun j hj => ?_⟩
    have hjn : j < N := by
      rcases Nat.lt_or_ge j N with h | h
      · exact h
      · exact absurd hj (tail_waits hs hc hNs inv _ i rfl (by omega) hun j h)
    by_cases hji : j = i
    · subst hji; exact .inl ⟨hin, oi, v, hi, hy, H⟩
    · have := hdone _ _ _ H j (ready_mono hj hji)
      omega
  | succ f ih =>
    intro s listed a inv hfree hr hy H
    have hun := (mem_ready.1 hr).1
    refine ⟨fun h => (by rw [h] at hr; cases hr), fun j hj => ?_⟩
    have hjn : j < N := by
      rcases Nat.lt_or_ge j N with h | h
      · exact h
      · exact absurd hj (tail_waits hs hc hNs inv _ i rfl (by omega) hun j h)
    by_cases hji : j = i
    · subst hji; exact .inl ⟨hin, oi, v, hi, hy, H⟩
    · obtain ⟨hjun, oj, hoj, hall⟩ := mem_ready.1 hj
      have hnot : ∀ e ∈ oj.after, Region.binds md e = true → e.on ≠ i := fun e he hb heq => by
        have h1 := hall e he hb
        rw [heq, getD_both hun] at h1
        cases h1
      obtain ⟨p1, p2, p3⟩ := Oper.apart_spec (hfree j oj hoj hji hjun hnot)
      have hfree' : ∀ k ok, ops[k]? = some ok → k ≠ i → (listed.setIfInBounds j true).getD k true = false →
          (∀ e ∈ ok.after, Region.binds md e = true → e.on ≠ i) → oi.apart ops ok = true := fun k ok hk hki hun' hno => by
        refine hfree k ok hk hki ?_ hno
        by_cases hjk : j = k
        · subst hjk; exact hjun
        · rw [getD_set_ne true hjk] at hun'; exact hun'
      have go : ∀ (s' : Option More) (u : Value), anyU P md ops w n alc L f s' ((listed.setIfInBounds i true).setIfInBounds j true) ((a.put oi.dst v).put oj.dst u) →
          anyU P md ops w n alc L (f + 1) s' (listed.setIfInBounds j true) (a.put oj.dst u) := fun s' u h => by
        refine ih s' (listed.setIfInBounds j true) (a.put oj.dst u) (inv.set hj hjn) hfree' (ready_mono hr (Ne.symm hji)) (hy.put (fun cs b => hsel i oi cs b hi) p3) ?_
        rw [Array.setIfInBounds_comm _ _ hji, ← Act.put_comm a v u p2]
        exact h
      rcases H.2 j (ready_mono hj hji) with ⟨hj2, oj', u, hoj', hyj, hk⟩ | ⟨hj2, hs2, d, hd, hk⟩
      · obtain rfl : oj = oj' := Option.some.inj (hoj.symm.trans hoj')
        exact .inl ⟨hj2, oj, u, hoj, hyj.unput (fun cs b => hsel j oj cs b hoj) p1, go s u hk⟩
      · obtain ⟨o, ho, hdst, _, _⟩ := hm d hd
        subst hj2
        obtain rfl : oj = o := Option.some.inj (hoj.symm.trans ho)
        refine .inr ⟨rfl, hs2, d, hd, fun x => ?_⟩
        have := go (some x) (pt w x)
        rw [hdst] at this
        exact this (hk x)
/-! the order of the text -/
def lexH (md : Region.Mode) (ops : Array Oper) (fin : Array Bool → Bool) : Nat → Nat → Array Bool → Bool
  | 0, _, listed => fin listed
  | f + 1, k, listed => (Region.ready md ops listed).contains k && Region.free md ops listed k && lexH md ops fin f (k + 1) (listed.setIfInBounds k true)
/-- The walk with one value for each operation. -/
def sureL (P : Program) (ops : Array Oper) (w : World) (Q : Act → Prop) : List Oper → Act → Prop
  | [], a => Q a
  | o :: rest, a => ∃ v, Sure P ops w o v a ∧ sureL P ops w Q rest (a.put o.dst v)
theorem any_lex {F : Nat} {fin : Array Bool → Bool} {Q : Act → Prop} (hm : Makes P ops n alc obj) (hsel : Region.noSelect ops = true) (hnN : n ≤ N) (hN : ∀ d, alc = some d → N = n + 1)
    (hs : Region.sinkB md ops N = true) (hc : Region.chainB md ops N = true) (hNs : N < ops.size) (hdone : ∀ s listed a, L s listed a → ∀ j ∈ Region.ready md ops listed, N ≤ j)
    (hfin : ∀ listed a, HeadInv md ops N listed → fin listed = true → Q a → anyU P md ops w n alc L F none listed a) :
    ∀ (l : List Oper) (k : Nat) (listed : Array Bool) (a : Act), (∀ j, j < l.length → l[j]? = ops[k + j]?) → k + l.length = n → HeadInv md ops N listed →
    lexH md ops fin l.length k listed = true → sureL P ops w Q l a → anyU P md ops w n alc L (l.length + F) none listed a
  | [], k, listed, a, _, hk, inv, hB, h => by
    simp only [List.length_nil, Nat.zero_add]
    exact hfin listed a inv (by simpa [lexH] using hB) h
  | o :: l, k, listed, a, hl, hk, inv, hB, h => by
    have h0 : ops[k]? = some o := by simpa using (hl 0 (by simp)).symm
    simp only [List.length_cons, lexH, Bool.and_eq_true] at hB
    obtain ⟨⟨hr, hf⟩, hB'⟩ := hB
    have hkn : k < n := by simp only [List.length_cons] at hk; omega
    have hr' : k ∈ Region.ready md ops listed := by simpa using hr
    obtain ⟨v, hy, hK⟩ := h
    rw [show (o :: l).length + F = (l.length + F) + 1 by simp only [List.length_cons]; omega]
    exact any_first hm h0 (Region.noSelect_spec hsel) hkn hnN hN hs hc hNs hdone (l.length + F) none listed a inv (Region.free_spec h0 hf) hr' hy
      (any_lex hm hsel hnN hN hs hc hNs hdone hfin l (k + 1) _ _ (fun j hj => by have := hl (j + 1) (by simp; omega); simpa [Nat.add_assoc, Nat.add_comm 1 j] using this) (by simp only [List.length_cons] at hk; omega) (inv.set hr' (by omega)) hB' hK)
/-! one value, out of walks from wherever the region has come -/
def dstsB (t : Nat) : List Oper → Bool
  | [] => true
  | o :: l => (match o.dst with | some d => decide (d < t) && l.all (fun o' => o'.dst != some d) | none => false) && dstsB t l
theorem put_size (a : Act) (d : Option Tmp) (v : Value) : (a.put d v).tmps.size = a.tmps.size := by cases d <;> simp [Act.put]
theorem quiet_keeps {C : World → Prop} {A : Act} {d : Tmp} : ∀ (l : List Oper) (a : Act), (l.all fun o' => o'.dst != some d) = true → wpQuiet P ops C (fun a' => a' = A) l a → A.tmps[d]? = a.tmps[d]?
  | [], a, _, h => by rw [← (h : a = A)]
  | o :: l, a, hd, h => by
    simp only [List.all_cons, Bool.and_eq_true, bne_iff_ne, ne_eq] at hd
    have key : ∀ v, (a.put o.dst v).tmps[d]? = a.tmps[d]? := fun v => by
      cases ho : o.dst with
      | none => rfl
      | some e =>
        have : e ≠ d := fun he => hd.1 (by rw [ho, he])
        simp [Act.put, Array.getElem?_setIfInBounds_ne this]
    unfold wpQuiet at h
    split at h
    · obtain ⟨v, _, h2⟩ := h
      rw [quiet_keeps l _ hd.2 h2, key]
    · rw [quiet_keeps l _ hd.2 h, key]
theorem sure_of_quiet {A : Act} {Q : Act → Prop} (hQ : Q A) : ∀ (l : List Oper) (a : Act), dstsB a.tmps.size l = true → (∀ x : More, wpQuiet P ops (fun u => ∃ y, u = grow (grow w x) y) (fun a' => a' = A) l a) → sureL P ops w Q l a
  | [], a, _, h => by have := h More.none_; unfold wpQuiet at this; subst this; exact hQ
  | o :: l, a, hd, h => by
    simp only [dstsB, Bool.and_eq_true] at hd
    obtain ⟨hd1, hd2⟩ := hd
    cases ho : o.dst with
    | none => rw [ho] at hd1; cases hd1
    | some d =>
      rw [ho] at hd1
      simp only [Bool.and_eq_true, decide_eq_true_eq] at hd1
      have fixed : ∀ v, wpQuiet P ops (fun u => ∃ y, u = grow (grow w More.none_) y) (fun a' => a' = A) l (a.put o.dst v) → A.tmps[d]? = some v := fun v hv => by
        rw [quiet_keeps l _ hd1.2 hv, ho]
        simp [Act.put, hd1.1]
      have fixed' : ∀ (x : More) v, wpQuiet P ops (fun u => ∃ y, u = grow (grow w x) y) (fun a' => a' = A) l (a.put o.dst v) → A.tmps[d]? = some v := fun x v hv => by
        rw [quiet_keeps l _ hd1.2 hv, ho]
        simp [Act.put, hd1.1]
      by_cases hw : Region.wanted o (yielded ops a.tmps) = true
      · have h0 := h More.none_
        unfold wpQuiet at h0
        rw [if_pos hw] at h0
        obtain ⟨v, _, h2⟩ := h0
        have hv := fixed v h2
        have each : ∀ x : More, (∀ u, (∃ y, u = grow (grow w x) y) → o.quietAt P a (fun u => ∃ y, u = grow (grow w x) y) u v) ∧ wpQuiet P ops (fun u => ∃ y, u = grow (grow w x) y) (fun a' => a' = A) l (a.put o.dst v) := fun x => by
          have hx := h x
          unfold wpQuiet at hx
          rw [if_pos hw] at hx
          obtain ⟨v', h1', h2'⟩ := hx
          have hv' := fixed' x v' h2'
          rw [hv] at hv'
          cases hv'
          exact ⟨h1', h2'⟩
        refine ⟨v, .inl ⟨hw, fun x => (each x).1 _ ⟨More.none_, rfl⟩⟩, ?_⟩
        exact sure_of_quiet hQ l _ (by rw [put_size]; exact hd2) fun x => (each x).2
      · refine ⟨undef, .inr ⟨by simpa using hw, rfl⟩, ?_⟩
        refine sure_of_quiet hQ l _ (by rw [put_size]; exact hd2) fun x => ?_
        have hx := h x
        unfold wpQuiet at hx
        rw [if_neg hw] at hx
        exact hx
end
section
variable {P : Program} {w : World}
def tailB (l : List Oper) (n : Nat) : Bool :=
  Region.noSelect l.toArray && decide (n < l.length) && Region.sinkB .any l.toArray n && Region.chainB .any l.toArray n && lexH .any l.toArray (fun listed => Region.seqB .any l.toArray (l.length - n) n listed) n 0 (Array.replicate l.length false)
theorem inv0 (l : List Oper) (N : Nat) : HeadInv .any l.toArray N (Array.replicate l.length false) :=
  ⟨by simp, fun j oj _ hl => (by rw [getD_replicate_false] at hl; cases hl), fun t _ ht => getD_in (by simpa using ht) (getD_replicate_false _ _)⟩
/-- The region's first n operations read or are such calls; the rest goes in one order. A: the frame behind the first n. -/
theorem wp_region_tail {id : Nat} {Q : Exit → Act → World → Prop} {a : Act} {l : List Oper} (n : Nat) (A : Act) (hm : P.follows .mixedOrders = true) (hB : tailB l n = true) (hd : dstsB a.tmps.size (l.take n) = true)
    (h : ∀ x : More, wpQuiet P l.toArray (fun u => ∃ y, u = grow (grow w x) y) (fun a' => a' = A) (l.take n) a)
    (ht : ∀ x : More, wpList P l.toArray Q (l.drop n) A (grow w x)) : (Code.region id l.toArray true).wp P Q a w := by
  simp only [tailB, Bool.and_eq_true, decide_eq_true_eq] at hB
  obtain ⟨⟨⟨⟨hsel, hn⟩, hs⟩, hc⟩, hlex⟩ := hB
  have htl : (l.take n).length = n := by simp; omega
  refine wp_region_any hm ?_
  have hmk : Makes P l.toArray n none (.cells #[] 0) := fun d hd => by cases hd
  have hu : At w (.cells #[] 0) none { w with drawn := w.drawn + 1 } := grow_of (bel_drew (BelD.refl _ _))
  have H := any_lex (P := P) (w := w) (md := .any) (ops := l.toArray) (n := n) (N := n) (alc := none) (obj := .cells #[] 0) (L := fun s listed a => s = none ∧ Region.seqB .any l.toArray (l.length - n) n listed = true ∧ a = A) (F := 0)
    (fin := fun listed => Region.seqB .any l.toArray (l.length - n) n listed) (Q := fun a => a = A) hmk hsel (Nat.le_refl _) (fun d hd => by cases hd) hs hc (by simpa using hn) (fun s listed a h => seqB_ready h.2.1)
    (fun listed a _ hf hq => ⟨rfl, hf, hq⟩) (l.take n) 0 (Array.replicate l.length false) a (fun j hj => by
      rw [htl] at hj
      simp [hj]) (by simpa using htl) (inv0 l n) (by rw [htl]; exact hlex) (sure_of_quiet (Q := fun a => a = A) rfl _ _ hd h)
  have S := any_sound (P := P) (Q' := Q) (g := l.length - n) hmk (fun s listed a u hu hl => by
    obtain ⟨rfl, hq, rfl⟩ := hl
    obtain ⟨x, rfl⟩ := hu
    have := wpAny_of_seq (md := .any) (Q' := Q) (ops := l.toArray) (l.drop n) n listed a (grow w x) (fun j => by simp [List.getElem?_drop]) (by simpa using hq) (ht x)
    simpa using this) _ _ _ _ _ hu H
  rw [htl, show n + 0 + (l.length - n) = l.length by omega] at S
  simpa using S
def makeB (l : List Oper) (n : Nat) : Bool :=
  Region.noSelect l.toArray && decide (n + 1 < l.length) && Region.sinkB .any l.toArray (n + 1) && Region.chainB .any l.toArray (n + 1) &&
  lexH .any l.toArray (fun listed => decide (Region.ready .any l.toArray listed = [n]) && Region.seqB .any l.toArray (l.length - (n + 1)) (n + 1) (listed.setIfInBounds n true)) n 0 (Array.replicate l.length false)
/-- The same, where operation n makes a block. -/
theorem wp_region_make {id : Nat} {Q : Exit → Act → World → Prop} {a : Act} {l : List Oper} (n : Nat) (A : Act) (d : Tmp) (obj : Obj) (hm : P.follows .mixedOrders = true) (hB : makeB l n = true) (hd : dstsB a.tmps.size (l.take n) = true)
    (hmk : Makes P l.toArray n (some d) obj)
    (h : ∀ x : More, wpQuiet P l.toArray (fun u => ∃ y, u = grow (grow w x) y) (fun a' => a' = A) (l.take n) a)
    (ht : ∀ x y : More, wpList P l.toArray Q (l.drop (n + 1)) (A.put (some d) (.pointer (some ⟨(grow w x).heap.size, 0, none⟩))) (grow ((grow w x).alloc obj) y)) : (Code.region id l.toArray true).wp P Q a w := by
  simp only [makeB, Bool.and_eq_true, decide_eq_true_eq] at hB
  obtain ⟨⟨⟨⟨hsel, hn⟩, hs⟩, hc⟩, hlex⟩ := hB
  have htl : (l.take n).length = n := by simp; omega
  refine wp_region_any hm ?_
  have hu : At w obj none { w with drawn := w.drawn + 1 } := grow_of (bel_drew (BelD.refl _ _))
  have H := any_lex (P := P) (w := w) (md := .any) (ops := l.toArray) (n := n) (N := n + 1) (alc := some d) (obj := obj)
    (L := fun s listed a => Region.seqB .any l.toArray (l.length - (n + 1)) (n + 1) listed = true ∧ ∃ x, s = some x ∧ a = A.put (some d) (pt w x)) (F := 1)
    (fin := fun listed => decide (Region.ready .any l.toArray listed = [n]) && Region.seqB .any l.toArray (l.length - (n + 1)) (n + 1) (listed.setIfInBounds n true)) (Q := fun a => a = A) hmk hsel (by omega) (fun d hd => rfl) hs hc (by simpa using hn)
    (fun s listed a h => seqB_ready h.1)
    (fun listed a _ hf hq => by
      simp only [Bool.and_eq_true, decide_eq_true_eq] at hf
      refine ⟨by rw [hf.1]; simp, fun i hi => .inr ?_⟩
      rw [hf.1] at hi
      obtain rfl : i = n := by simpa using hi
      exact ⟨rfl, rfl, d, rfl, fun x => ⟨hf.2, x, rfl, by rw [hq]⟩⟩) (l.take n) 0 (Array.replicate l.length false) a (fun j hj => by
      rw [htl] at hj
      simp [hj]) (by simpa using htl) (inv0 l (n + 1)) (by rw [htl]; exact hlex) (sure_of_quiet (Q := fun a => a = A) rfl _ _ hd h)
  have S := any_sound (P := P) (Q' := Q) (g := l.length - (n + 1)) hmk (fun s listed a u hu hl => by
    obtain ⟨hq, x, rfl, rfl⟩ := hl
    obtain ⟨y, rfl⟩ := hu
    have := wpAny_of_seq (md := .any) (Q' := Q) (ops := l.toArray) (l.drop (n + 1)) (n + 1) listed (A.put (some d) (pt w x)) (grow ((grow w x).alloc obj) y) (fun j => by simp [List.getElem?_drop]) (by simpa using hq) (ht x y)
    simpa using this) _ _ _ _ _ hu H
  rw [htl, show n + 1 + (l.length - (n + 1)) = l.length by omega] at S
  simpa using S
end
end Go.Proofs.Ythadlpkdfnonjaa.D
namespace Go.Proofs.Ythadlpkdfnonjaa
open Go.RowKit
set_option linter.unusedVariables false
set_option linter.unusedSimpArgs false
set_option linter.unnecessarySimpa false
set_option maxRecDepth 100000


def orT (x y : Int) : Int := if x ≠ 0 then x else y
set_option maxHeartbeats 1000000 in
theorem orT_any (W : World) (g off c : Nat) (x y : Int) (h0 : W.cell? ⟨g, off, none⟩ = some (.int .i64 x)) (h1 : W.cell? ⟨g, off + 1, none⟩ = some (.int .i64 y)) (hg : g < W.heap.size) :
    Calls Try.prog 105 #[.slice (some ⟨g, off, none⟩) 2 c] W fun e W' => e = .returned (.int .i64 (orT x y)) ∧ W' = W := by
  go_enter Try.func105, Try.ntmps105
  go_wp2
  go_loopw [8] (fun i wr => wr = W ∧ (i = .int .i64 0 ∨ (i = .int .i64 1 ∧ x = 0) ∨ (i = .int .i64 2 ∧ x = 0 ∧ y = 0))) (fun i _ => 3 - (intOf i).toNat)
  case atStart => exact ⟨rfl, .inl rfl⟩
  case round =>
    obtain ⟨rfl, rfl | ⟨rfl, hx⟩ | ⟨rfl, hx, hy⟩⟩ := hrel
    · by_cases e : x = 0
      · subst e
        go_wp2
        go_roundw
        case rel => exact ⟨trivial, .inr (.inl ⟨rfl, trivial⟩)⟩
        case measure => simp [intOf]
      · have e2 : (x == 0) = false := by simpa using e
        go_wp2
        go_ret
        exact ⟨by simp [orT, e], rfl⟩
    · by_cases e : y = 0
      · subst e
        go_wp2
        go_roundw
        case rel => exact ⟨trivial, .inr (.inr ⟨rfl, hx, trivial⟩)⟩
        case measure => simp [intOf]
      · have e2 : (y == 0) = false := by simpa using e
        go_wp2
        go_ret
        exact ⟨by simp [orT, hx], rfl⟩
    · go_wp2
      go_ret
      exact ⟨by simp [orT, hx, hy], rfl⟩
theorem cmp_g (x y : Int) : D.Gives Try.prog 106 #[.int .i64 x, .int .i64 y] (.int .i64 (Lib.compareInt x y)) := D.Gives.mk fun w => (Try.cmp_Compare_int x y w).mono fun _ _ ⟨he, hw⟩ => ⟨he, hw ▸ D.BelD.refl _ _⟩
end Go.Proofs.Ythadlpkdfnonjaa
namespace Go.Proofs.Ythadlpkdfnonjaa
open Go.RowKit Go.Sort
set_option linter.unusedVariables false
set_option linter.unusedSimpArgs false
set_option linter.unnecessarySimpa false
set_option maxRecDepth 100000
theorem part1_D (q : P3) : D.Gives Try.prog 129 #[.agg #[.int .i64 q.x, .int .i64 q.y, .int .i64 q.z]] (.int .i64 (ptA q 0)) := by
  refine D.Gives.mk fun w => ?_
  go_enter Try.func129, Try.ntmps129
  go_wp2
  go_ret
  exact ⟨rfl, by repeat (first | exact D.BelD.refl _ _ | refine D.bel_alloc ?_ _)⟩
theorem part2_D (q : P3) : D.Gives Try.prog 130 #[.agg #[.int .i64 q.x, .int .i64 q.y, .int .i64 q.z]] (.int .i64 (ptA q 1)) := by
  refine D.Gives.mk fun w => ?_
  go_enter Try.func130, Try.ntmps130
  go_wp2
  go_ret
  exact ⟨rfl, by repeat (first | exact D.BelD.refl _ _ | refine D.bel_alloc ?_ _)⟩
theorem part3_D (q : P3) : D.Gives Try.prog 131 #[.agg #[.int .i64 q.x, .int .i64 q.y, .int .i64 q.z]] (.int .i64 (ptA q 2)) := by
  refine D.Gives.mk fun w => ?_
  go_enter Try.func131, Try.ntmps131
  go_wp2
  go_ret
  exact ⟨rfl, by repeat (first | exact D.BelD.refl _ _ | refine D.bel_alloc ?_ _)⟩
def cfB (B : Nat → Bx) (a i k : Nat) : Int := orT (Lib.compareInt (ptA (mdB (B i)) a) (ptA (mdB (B k)) a)) (Lib.compareInt (i : Int) (k : Int))
set_option maxHeartbeats 2000000 in
theorem sorterB_any (W : World) (gp gb g0 a : Nat) (A : Option Addr) (n c : Nat) (B : Nat → Bx) (v0 v1 v2 lf : Value) (hP : Blk W gp 155 #[.func (.func (partF a)) #[] #[]]) (hb : Blk W gb 136 #[.pointer (some ⟨g0, 0, none⟩)]) (h0 : Blk W g0 107 #[v0, v1, v2, .slice A n c, lf]) (hM : BxR W A n (mB B)) (X0 Y0 : Nat) (hx : X0 < n) (hy : Y0 < n) (ha : a = 0 ∨ a = 1 ∨ a = 2) :
    Calls Try.prog 104 #[.int .i64 (X0 : Int), .int .i64 (Y0 : Int), .pointer (some ⟨gp, 0, none⟩), .pointer (some ⟨gb, 0, none⟩)] W fun e W' => e = .returned (.int .i64 (cfB B a X0 Y0)) ∧ ∃ z, W' = D.grow W z := by
  have c2 := cmp_g (X0 : Int) (Y0 : Int)
  have c1 := cmp_g (ptA (mdB (B X0)) a) (ptA (mdB (B Y0)) a)
  obtain ⟨bm, om, rfl, hbm, x0, x1, x2, _⟩ := hM.at_ X0 hx
  obtain ⟨bm', om', heq, _, y0, y1, y2, _⟩ := hM.at_ Y0 hy
  cases heq
  have p0 := hP.cell 0
  have pl := hP.lt
  have b0 := hb.cell 0
  have bl := hb.lt
  have d3 := h0.cell 3
  have dl := h0.lt
  have q0 : (0 : Int) ≤ (X0 : Int) := by omega
  have q1 : (X0 : Int) < (n : Int) := by omega
  have r0 : (0 : Int) ≤ (Y0 : Int) := by omega
  have r1 : (Y0 : Int) < (n : Int) := by omega
  unfold cfB
  simp only [mB] at x0 x1 x2 y0 y1 y2
  generalize mdB (B X0) = px at *
  generalize mdB (B Y0) = py at *
  clear hM hP hb h0 hx hy
  rcases ha with rfl | rfl | rfl
  · have kx := part1_D px
    have ky := part1_D py
    rw [show partF 0 = 129 from rfl] at p0
    generalize ptA px 0 = u at *
    generalize ptA py 0 = v at *
    go_enter Try.func104, Try.ntmps104
    go_wp2_with fail
    refine D.wp_region_tail 24 ?_ (by kernel_rfl) (by kernel_rfl) (by kernel_rfl) (fun x => ?_) (fun x => ?_)
    rotate_left
    · simp only [List.take_succ_cons, List.take_zero]
      repeat (go_big_quiet_step ((first | with_reducible exact kx.quiet _ | with_reducible exact kx.quiet2 _ _ | with_reducible exact ky.quiet _ | with_reducible exact ky.quiet2 _ _ | with_reducible exact c1.quiet _ | with_reducible exact c1.quiet2 _ _ | with_reducible exact c2.quiet _ | with_reducible exact c2.quiet2 _ _)))
      refine wpQuiet_nil ?_
      exact rfl
    simp only [List.drop_succ_cons, List.drop_zero]
    try simp only [Act.put, List.setIfInBounds_toArray, List.set_cons_succ, List.set_cons_zero]
    have hbel : D.BelD W.heap.size W (D.grow W x) := D.bel_grow (D.BelD.refl _ _) x
    generalize D.grow W x = W1 at *
    have hbk : Blk (W1.alloc (.cells #[.int .i64 (Lib.compareInt u v), .int .i64 (Lib.compareInt (X0 : Int) (Y0 : Int))] 3)) W1.heap.size 3 #[.int .i64 (Lib.compareInt u v), .int .i64 (Lib.compareInt (X0 : Int) (Y0 : Int))] := Blk.new _ _ _ _ rfl
    have hor := orT_any _ W1.heap.size 0 2 _ _ (hbk.cell 0) (hbk.cell 1) hbk.lt
    clear hbk c1 c2 kx ky
    go_wp2_with (first | (go_at_call 105; (refine hor.mono ?_); rintro e W2 ⟨rfl, rfl⟩) | fail)
    go_ret
    exact ⟨rfl, D.grow_of (D.bel_alloc hbel _)⟩
  · have kx := part2_D px
    have ky := part2_D py
    rw [show partF 1 = 130 from rfl] at p0
    generalize ptA px 1 = u at *
    generalize ptA py 1 = v at *
    go_enter Try.func104, Try.ntmps104
    go_wp2_with fail
    refine D.wp_region_tail 24 ?_ (by kernel_rfl) (by kernel_rfl) (by kernel_rfl) (fun x => ?_) (fun x => ?_)
    rotate_left
    · simp only [List.take_succ_cons, List.take_zero]
      repeat (go_big_quiet_step ((first | with_reducible exact kx.quiet _ | with_reducible exact kx.quiet2 _ _ | with_reducible exact ky.quiet _ | with_reducible exact ky.quiet2 _ _ | with_reducible exact c1.quiet _ | with_reducible exact c1.quiet2 _ _ | with_reducible exact c2.quiet _ | with_reducible exact c2.quiet2 _ _)))
      refine wpQuiet_nil ?_
      exact rfl
    simp only [List.drop_succ_cons, List.drop_zero]
    try simp only [Act.put, List.setIfInBounds_toArray, List.set_cons_succ, List.set_cons_zero]
    have hbel : D.BelD W.heap.size W (D.grow W x) := D.bel_grow (D.BelD.refl _ _) x
    generalize D.grow W x = W1 at *
    have hbk : Blk (W1.alloc (.cells #[.int .i64 (Lib.compareInt u v), .int .i64 (Lib.compareInt (X0 : Int) (Y0 : Int))] 3)) W1.heap.size 3 #[.int .i64 (Lib.compareInt u v), .int .i64 (Lib.compareInt (X0 : Int) (Y0 : Int))] := Blk.new _ _ _ _ rfl
    have hor := orT_any _ W1.heap.size 0 2 _ _ (hbk.cell 0) (hbk.cell 1) hbk.lt
    clear hbk c1 c2 kx ky
    go_wp2_with (first | (go_at_call 105; (refine hor.mono ?_); rintro e W2 ⟨rfl, rfl⟩) | fail)
    go_ret
    exact ⟨rfl, D.grow_of (D.bel_alloc hbel _)⟩
  · have kx := part3_D px
    have ky := part3_D py
    rw [show partF 2 = 131 from rfl] at p0
    generalize ptA px 2 = u at *
    generalize ptA py 2 = v at *
    go_enter Try.func104, Try.ntmps104
    go_wp2_with fail
    refine D.wp_region_tail 24 ?_ (by kernel_rfl) (by kernel_rfl) (by kernel_rfl) (fun x => ?_) (fun x => ?_)
    rotate_left
    · simp only [List.take_succ_cons, List.take_zero]
      repeat (go_big_quiet_step ((first | with_reducible exact kx.quiet _ | with_reducible exact kx.quiet2 _ _ | with_reducible exact ky.quiet _ | with_reducible exact ky.quiet2 _ _ | with_reducible exact c1.quiet _ | with_reducible exact c1.quiet2 _ _ | with_reducible exact c2.quiet _ | with_reducible exact c2.quiet2 _ _)))
      refine wpQuiet_nil ?_
      exact rfl
    simp only [List.drop_succ_cons, List.drop_zero]
    try simp only [Act.put, List.setIfInBounds_toArray, List.set_cons_succ, List.set_cons_zero]
    have hbel : D.BelD W.heap.size W (D.grow W x) := D.bel_grow (D.BelD.refl _ _) x
    generalize D.grow W x = W1 at *
    have hbk : Blk (W1.alloc (.cells #[.int .i64 (Lib.compareInt u v), .int .i64 (Lib.compareInt (X0 : Int) (Y0 : Int))] 3)) W1.heap.size 3 #[.int .i64 (Lib.compareInt u v), .int .i64 (Lib.compareInt (X0 : Int) (Y0 : Int))] := Blk.new _ _ _ _ rfl
    have hor := orT_any _ W1.heap.size 0 2 _ _ (hbk.cell 0) (hbk.cell 1) hbk.lt
    clear hbk c1 c2 kx ky
    go_wp2_with (first | (go_at_call 105; (refine hor.mono ?_); rintro e W2 ⟨rfl, rfl⟩) | fail)
    go_ret
    exact ⟨rfl, D.grow_of (D.bel_alloc hbel _)⟩
end Go.Proofs.Ythadlpkdfnonjaa
