/- Contracts of wide's calls: Neg of the least number, Cmp, Int, Order. The contract of wide's call Order. The document's own numbers, as digits: contracts of its calls, part 4: digits held against each other, their value, noughts. A region that draws its order: its operations read, or are calls that answer a value and leave what was there; one of them may make a block; the last ones, in one forced order, store. One walk in the order of the text serves every order. No program is imported. The document's own numbers, as digits: contracts of its calls, part 5: signs, order. The document's own numbers, as digits: contracts of its calls, part 6: the other sign; to and from wide numbers. -/
import Derived.ChangeKeysEq
import Derived.StillTail
import Derived.Deep.MidRow
import Derived.Test.YthadlpkdfnonjaaC0
import Derived.Test.YthadlpkdfnonjaaC1
namespace Go.Proofs.Ythadlpkdfnonjaa
open Go.RowKit
set_option linter.unusedVariables false
set_option linter.unusedSimpArgs false

/-- -1, 0 or 1. -/
def cmpOf (x y : Int) : Int := if x < y then -1 else if x = y then 0 else 1
theorem ret_i64 {a b : Int} (h : a = b) : Ending.returned (.int .i64 a) = .returned (.int .i64 b) := by rw [h]

theorem cmp_any (x y : Int) (hx : InW x) (hy : InW y) :
    Gives Try.prog 109 #[.agg #[.int .i64 (hiOf x), .int .u64 (loOf x)], .agg #[.int .i64 (hiOf y), .int .u64 (loOf y)]] (.int .i64 (cmpOf x y)) := by
  refine Gives.mk fun w => ?_
  have bx := hi_bd hx
  have bb := hi_bd hy
  have lx := lo_bd x
  have ly := lo_bd y
  have k1 := Lib.hid (hi_lo x)
  have k2 := Lib.hid (hi_lo y)
  clear hx hy
  go_enter Try.func109, Try.ntmps109
  go_wp2
  all_goals
    go_ret
    refine ⟨ret_i64 ?_, bel_alloc (bel_alloc (Below.refl _ _) _) _⟩
    have k1 := k1.out
    have k2 := k2.out
    unfold cmpOf
    try simp
    (try split) <;> omega

/-- A fraction as it may be. -/
def Right (n d : Int) : Prop := 0 < d ∨ n = 1 ∧ d = 0
theorem fraction_yes (n d : Int) (h0 : -9223372036854775808 ≤ d) (h : Right n d) :
    Gives Try.prog 108 #[.agg #[.int .i64 n, .int .i64 d]] (.bool true) := by
  refine Gives.mk fun w => ?_
  rcases h with h | ⟨rfl, rfl⟩ <;>
  · go_enter Try.func108, Try.ntmps108
    go_wp2
    go_ret
    exact ⟨rfl, bel_alloc (Below.refl _ _) _⟩
end Go.Proofs.Ythadlpkdfnonjaa
namespace Go.Proofs.Ythadlpkdfnonjaa
open Go.RowKit
set_option linter.unusedVariables false
set_option linter.unusedSimpArgs false

theorem order_yes (pn pd qn qd : Int) (a0 : -9223372036854775808 ≤ pn) (a1 : pn ≤ 9223372036854775807) (b0 : -9223372036854775808 ≤ pd) (b1 : pd ≤ 9223372036854775807)
    (c0 : -9223372036854775808 ≤ qn) (c1 : qn ≤ 9223372036854775807) (d0 : -9223372036854775808 ≤ qd) (d1 : qd ≤ 9223372036854775807) (hp : Right pn pd) (hq : Right qn qd) :
    Gives Try.prog 88 #[.agg #[.int .i64 pn, .int .i64 pd], .agg #[.int .i64 qn, .int .i64 qd]] (.tuple #[.int .i64 (cmpOf (pn * qd) (qn * pd)), .bool true]) := by
  refine Gives.mk fun w => ?_
  have f1 := fraction_yes pn pd b0 hp
  have f2 := fraction_yes qn qd d0 hq
  have m1 := mul_any pn qd a0 a1 d0 d1
  have m2 := mul_any qn pd c0 c1 b0 b1
  have k := cmp_any (pn * qd) (qn * pd) (inW_mul _ _ a0 a1 d0 d1) (inW_mul _ _ c0 c1 b0 b1)
  clear hp hq
  go_enter Try.func88, Try.ntmps88
  go_wp2_with (go_at_call 108; first | ((with_reducible refine (f1.at_ _).mono ?_); rintro e w' ⟨rfl, x, rfl⟩) | ((with_reducible refine (f2.at_ _).mono ?_); rintro e w' ⟨rfl, x, rfl⟩))
  refine wp_region_grow (by kernel_rfl) (by kernel_rfl) ?_
  repeat (go_big_quiet_step ((first | (first | with_reducible exact m1.quiet _ | with_reducible exact m1.quiet2 _ _) | (first | with_reducible exact m2.quiet _ | with_reducible exact m2.quiet2 _ _) | (first | with_reducible exact k.quiet _ | with_reducible exact k.quiet2 _ _))))
  refine wpQuiet_nil ?_
  rintro _ ⟨x, rfl⟩
  go_wp2
  go_ret2
  exact ⟨rfl, by repeat (first | exact Below.refl _ _ | refine bel_grow ?_ _ | refine bel_alloc ?_ _)⟩

end Go.Proofs.Ythadlpkdfnonjaa
namespace Go.Proofs.Ythadlpkdfnonjaa
open Go.RowKit
set_option linter.unusedVariables false
set_option linter.unusedSimpArgs false
theorem items (A B : Nat → Int) (w : World) : ∀ is : List Nat, (∀ i ∈ is, i < 18) → (Op.eqItems 9999 3 1 (digs A) (digs B) is).run Try.prog w = .ok (is.all fun i => A i == B i) w
  | [], _ => by simp [Op.eqItems]
  | i :: is, h => by
    have hi : i < 18 := h i (by simp)
    have ih := items A B w is (fun j hj => h j (by simp [hj]))
    have p1 : ∀ C : Nat → Int, (part 3 (digs C) (i * 1)).run Try.prog w = .ok (.int .i64 (C i)) w := fun C => by
      simp [go_sem, part, Try.underlying3, hi]
    rw [Op.eqItems]
    simp only [Sem.run_bind, p1, Result.andThen_ok]
    rw [show (9999 : Nat) = 9998 + 1 from rfl, run_equalIn_int _ _ _ _ _ _ _ Try.underlying3]
    simp only [Result.andThen_ok, List.all_cons]
    cases hb : (A i == B i)
    · simp
    · simpa using ih
end Go.Proofs.Ythadlpkdfnonjaa
namespace Go.Proofs.Ythadlpkdfnonjaa
open Go.RowKit
set_option linter.unusedVariables false
set_option linter.unusedSimpArgs false
def More.none_ : More := ⟨fun w => w, fun w => Below.refl _ _⟩
section
variable {P : Program} {ops : Array Oper} {w : World} {md : Region.Mode}
/-- From wherever the region has come, the operation answers v and leaves what was there. -/
def SureAt (P : Program) (o : Oper) (a : Act) (w : World) (v : Value) : Prop := ∀ x : More, o.quietAt P a (fun u => ∃ y, u = grow (grow w x) y) (grow w x) v
def Sure (P : Program) (ops : Array Oper) (w : World) (o : Oper) (v : Value) (a : Act) : Prop :=
  (Region.wanted o (yielded ops a.tmps) = true ∧ SureAt P o a w v) ∨ (Region.wanted o (yielded ops a.tmps) = false ∧ v = undef)
theorem Sure.of_same {o : Oper} {v : Value} {a a' : Act} (h : Sure P ops w o v a) (he : execOp a'.eval o = execOp a.eval o) (hw : Region.wanted o (yielded ops a'.tmps) = Region.wanted o (yielded ops a.tmps)) : Sure P ops w o v a' := by
  unfold Sure SureAt Oper.quietAt at *
  rw [he, hw]
  exact h
/-- What another operation, apart from it, has left makes no difference. -/
theorem Sure.put {o oj : Oper} {v u : Value} {a : Act} (h : Sure P ops w o v a) (hs : ∀ cs b, o.op ≠ .select cs b) (hd : ∀ d, oj.dst = some d → d ∉ o.looksAt ops) : Sure P ops w o v (a.put oj.dst u) :=
  h.of_same (execOp_put o hs a oj.dst u hd) (wanted_put o a oj.dst u hd)
theorem Sure.unput {o oj : Oper} {v u : Value} {a : Act} (h : Sure P ops w o v (a.put oj.dst u)) (hs : ∀ cs b, o.op ≠ .select cs b) (hd : ∀ d, oj.dst = some d → d ∉ o.looksAt ops) : Sure P ops w o v a :=
  h.of_same (execOp_put o hs a oj.dst u hd).symm (wanted_put o a oj.dst u hd).symm
def sureOp (P : Program) (ops : Array Oper) (w : World) (i : Nat) (K : Act → Prop) (a : Act) : Prop := ∃ o v, ops[i]? = some o ∧ Sure P ops w o v a ∧ K (a.put o.dst v)
/-- The one block that the region makes: its place in the region, its slot. -/
def pt (w : World) (x : More) : Value := .pointer (some ⟨(grow w x).heap.size, 0, none⟩)
/-- Where the region may be: nothing made yet; or the block made behind what x tells. -/
def At (w : World) (obj : Obj) : Option More → World → Prop
  | none, u => ∃ x, u = grow w x
  | some x, u => ∃ y, u = grow ((grow w x).alloc obj) y
theorem At.grows {obj : Obj} {s : Option More} {u : World} (h : At w obj s u) : ∃ x, u = grow w x := by
  cases s with
  | none => exact h
  | some x =>
    obtain ⟨y, rfl⟩ := h
    exact grow_of (bel_grow (bel_alloc (bel_grow (Below.refl _ _) x) obj) y)
theorem At.on {obj : Obj} {s : Option More} {u : World} (h : At w obj s u) (y : More) : At w obj s (grow u y) := by
  cases s with
  | none => obtain ⟨x, rfl⟩ := h; exact ⟨x.then y, rfl⟩
  | some x => obtain ⟨z, rfl⟩ := h; exact ⟨z.then y, rfl⟩
variable {n N : Nat} {alc : Option Tmp} {obj : Obj} {L : Option More → Array Bool → Act → Prop}
def anyU (P : Program) (md : Region.Mode) (ops : Array Oper) (w : World) (n : Nat) (alc : Option Tmp) (L : Option More → Array Bool → Act → Prop) : Nat → Option More → Array Bool → Act → Prop
  | 0, s, listed, a => L s listed a
  | f + 1, s, listed, a => Region.ready md ops listed ≠ [] ∧ ∀ i ∈ Region.ready md ops listed,
      (i < n ∧ sureOp P ops w i (anyU P md ops w n alc L f s (listed.setIfInBounds i true)) a) ∨
      (i = n ∧ s = none ∧ ∃ d, alc = some d ∧ ∀ x, anyU P md ops w n alc L f (some x) (listed.setIfInBounds i true) (a.put (some d) (pt w x)))
/-- What the block's making does. -/
def Makes (P : Program) (ops : Array Oper) (n : Nat) (alc : Option Tmp) (obj : Obj) : Prop :=
  ∀ d, alc = some d → ∃ o, ops[n]? = some o ∧ o.dst = some d ∧ o.guard = none ∧ ∀ (a : Act) (u : World), (execOp a.eval o).run P u = .ok (.value (.pointer (some ⟨u.heap.size, 0, none⟩))) (u.alloc obj)
theorem any_sound {g : Nat} {Q' : Exit → Act → World → Prop} (hm : Makes P ops n alc obj) (hL : ∀ s listed a u, At w obj s u → L s listed a → wpAny P md ops Q' g listed a u) :
    ∀ (f : Nat) (s : Option More) (listed : Array Bool) (a : Act) (u : World), At w obj s u → anyU P md ops w n alc L f s listed a → wpAny P md ops Q' (f + g) listed a u
  | 0, s, listed, a, u, hu, h => by rw [Nat.zero_add]; exact hL _ _ _ _ hu h
  | f + 1, s, listed, a, u, hu, h => by
    rw [show f + 1 + g = (f + g) + 1 by omega]
    refine ⟨fun h0 => absurd h0 h.1, fun i hi => ?_⟩
    rcases h.2 i hi with ⟨_, o, v, ho, hy, hk⟩ | ⟨hin, hsn, d, hd, hk⟩
    · unfold wpOp
      simp only [ho]
      rcases hy with ⟨hw, hv⟩ | ⟨hw, rfl⟩
      · rw [if_pos hw]
        left
        obtain ⟨x, rfl⟩ := hu.grows
        have h3 := hv x
        unfold Oper.quietAt at h3
        unfold Oper.wp
        generalize (execOp a.eval o).run P (grow w x) = r at *
        cases r with
        | ok nx w' =>
          cases nx <;> simp only [Oper.quietUpon] at h3 <;> simp only [Oper.upon]
          case value u' =>
            obtain ⟨e1, e2⟩ := h3
            rw [e1, e2]
            exact any_sound hm hL f _ _ _ _ hu hk
          case skip =>
            obtain ⟨e1, e2⟩ := h3
            rw [e1, ← e2]
            exact any_sound hm hL f _ _ _ _ hu hk
          case enter fn args =>
            obtain ⟨e1, hc⟩ := h3
            rw [e1]
            exact hc.mono fun e w'' ⟨he, y, hy⟩ => by
              subst he hy
              exact any_sound hm hL f _ _ _ _ (hu.on y) hk
        | halt x w' => simp only [Oper.quietUpon] at h3
      · rw [if_neg (by rw [hw]; exact Bool.false_ne_true)]
        exact any_sound hm hL f _ _ _ _ hu hk
    · obtain ⟨o, ho, hdst, hg, hrun⟩ := hm d hd
      rw [hsn] at hu
      obtain ⟨x, hux⟩ := hu
      unfold wpOp
      rw [hin] at hk ⊢
      simp only [ho]
      rw [if_pos (by simp [Region.wanted, hg])]
      left
      unfold Oper.wp
      rw [hrun]
      simp only [Oper.upon, hdst]
      rw [hux]
      exact any_sound hm hL f (some x) _ _ _ ⟨More.none_, rfl⟩ (hk x)
theorem any_first {i : Nat} {oi : Oper} {v : Value} (hm : Makes P ops n alc obj) (hi : ops[i]? = some oi) (hsel : ∀ (j : Nat) (o : Oper) cs b, ops[j]? = some o → o.op ≠ .select cs b) (hin : i < n) (hnN : n ≤ N) (hN : ∀ d, alc = some d → N = n + 1)
    (hs : Region.sinkB md ops N = true) (hc : Region.chainB md ops N = true) (hNs : N < ops.size) (hdone : ∀ s listed a, L s listed a → ∀ j ∈ Region.ready md ops listed, N ≤ j) :
    ∀ (f : Nat) (s : Option More) (listed : Array Bool) (a : Act), HeadInv md ops N listed →
      (∀ j oj, ops[j]? = some oj → j ≠ i → listed.getD j true = false → (∀ e ∈ oj.after, Region.binds md e = true → e.on ≠ i) → oi.apart ops oj = true) →
      i ∈ Region.ready md ops listed → Sure P ops w oi v a →
      anyU P md ops w n alc L f s (listed.setIfInBounds i true) (a.put oi.dst v) → anyU P md ops w n alc L (f + 1) s listed a := by
  intro f
  induction f with
  | zero =>
    intro s listed a inv _ hr hy H
    have hun := (mem_ready.1 hr).1
    refine ⟨fun h => (by rw [h] at hr; cases hr), fun j hj => ?_⟩
    have hjn : j < N := by
      rcases Nat.lt_or_ge j N with h | h
      · exact h
      · exact absurd hj (tail_waits hs hc hNs inv _ i rfl (by omega) hun j h)
    by_cases hji : j = i
    · subst hji; exact .inl ⟨hin, oi, v, hi, hy, H⟩
    · have := hdone _ _ _ H j (ready_mono hj hji)
      omega
  | succ f ih =>
    intro s listed a inv hfree hr hy H
    have hun := (mem_ready.1 hr).1
    refine ⟨fun h => (by rw [h] at hr; cases hr), fun j hj => ?_⟩
    have hjn : j < N := by
      rcases Nat.lt_or_ge j N with h | h
      · exact h
      · exact absurd hj (tail_waits hs hc hNs inv _ i rfl (by omega) hun j h)
    by_cases hji : j = i
    · subst hji; exact .inl ⟨hin, oi, v, hi, hy, H⟩
    · obtain ⟨hjun, oj, hoj, hall⟩ := mem_ready.1 hj
      have hnot : ∀ e ∈ oj.after, Region.binds md e = true → e.on ≠ i := fun e he hb heq => by
        have h1 := hall e he hb
        rw [heq, getD_both hun] at h1
        cases h1
      obtain ⟨p1, p2, p3⟩ := Oper.apart_spec (hfree j oj hoj hji hjun hnot)
      have hfree' : ∀ k ok, ops[k]? = some ok → k ≠ i → (listed.setIfInBounds j true).getD k true = false →
          (∀ e ∈ ok.after, Region.binds md e = true → e.on ≠ i) → oi.apart ops ok = true := fun k ok hk hki hun' hno => by
        refine hfree k ok hk hki ?_ hno
        by_cases hjk : j = k
        · subst hjk; exact hjun
        · rw [getD_set_ne true hjk] at hun'; exact hun'
      have go : ∀ (s' : Option More) (u : Value), anyU P md ops w n alc L f s' ((listed.setIfInBounds i true).setIfInBounds j true) ((a.put oi.dst v).put oj.dst u) →
          anyU P md ops w n alc L (f + 1) s' (listed.setIfInBounds j true) (a.put oj.dst u) := fun s' u h => by
        refine ih s' (listed.setIfInBounds j true) (a.put oj.dst u) (inv.set hj hjn) hfree' (ready_mono hr (Ne.symm hji)) (hy.put (fun cs b => hsel i oi cs b hi) p3) ?_
        rw [Array.setIfInBounds_comm _ _ hji, ← Act.put_comm a v u p2]
        exact h
      rcases H.2 j (ready_mono hj hji) with ⟨hj2, oj', u, hoj', hyj, hk⟩ | ⟨hj2, hs2, d, hd, hk⟩
      · obtain rfl : oj = oj' := Option.some.inj (hoj.symm.trans hoj')
        exact .inl ⟨hj2, oj, u, hoj, hyj.unput (fun cs b => hsel j oj cs b hoj) p1, go s u hk⟩
      · obtain ⟨o, ho, hdst, _, _⟩ := hm d hd
        subst hj2
        obtain rfl : oj = o := Option.some.inj (hoj.symm.trans ho)
        refine .inr ⟨rfl, hs2, d, hd, fun x => ?_⟩
        have := go (some x) (pt w x)
        rw [hdst] at this
        exact this (hk x)
/-! the order of the text -/
def lexH (md : Region.Mode) (ops : Array Oper) (fin : Array Bool → Bool) : Nat → Nat → Array Bool → Bool
  | 0, _, listed => fin listed
  | f + 1, k, listed => (Region.ready md ops listed).contains k && Region.free md ops listed k && lexH md ops fin f (k + 1) (listed.setIfInBounds k true)
/-- The walk with one value for each operation. -/
def sureL (P : Program) (ops : Array Oper) (w : World) (Q : Act → Prop) : List Oper → Act → Prop
  | [], a => Q a
  | o :: rest, a => ∃ v, Sure P ops w o v a ∧ sureL P ops w Q rest (a.put o.dst v)
theorem any_lex {F : Nat} {fin : Array Bool → Bool} {Q : Act → Prop} (hm : Makes P ops n alc obj) (hsel : Region.noSelect ops = true) (hnN : n ≤ N) (hN : ∀ d, alc = some d → N = n + 1)
    (hs : Region.sinkB md ops N = true) (hc : Region.chainB md ops N = true) (hNs : N < ops.size) (hdone : ∀ s listed a, L s listed a → ∀ j ∈ Region.ready md ops listed, N ≤ j)
    (hfin : ∀ listed a, HeadInv md ops N listed → fin listed = true → Q a → anyU P md ops w n alc L F none listed a) :
    ∀ (l : List Oper) (k : Nat) (listed : Array Bool) (a : Act), (∀ j, j < l.length → l[j]? = ops[k + j]?) → k + l.length = n → HeadInv md ops N listed →
    lexH md ops fin l.length k listed = true → sureL P ops w Q l a → anyU P md ops w n alc L (l.length + F) none listed a
  | [], k, listed, a, _, hk, inv, hB, h => by
    simp only [List.length_nil, Nat.zero_add]
    exact hfin listed a inv (by simpa [lexH] using hB) h
  | o :: l, k, listed, a, hl, hk, inv, hB, h => by
    have h0 : ops[k]? = some o := by simpa using (hl 0 (by simp)).symm
    simp only [List.length_cons, lexH, Bool.and_eq_true] at hB
    obtain ⟨⟨hr, hf⟩, hB'⟩ := hB
    have hkn : k < n := by simp only [List.length_cons] at hk; omega
    have hr' : k ∈ Region.ready md ops listed := by simpa using hr
    obtain ⟨v, hy, hK⟩ := h
    rw [show (o :: l).length + F = (l.length + F) + 1 by simp only [List.length_cons]; omega]
    exact any_first hm h0 (Region.noSelect_spec hsel) hkn hnN hN hs hc hNs hdone (l.length + F) none listed a inv (Region.free_spec h0 hf) hr' hy
      (any_lex hm hsel hnN hN hs hc hNs hdone hfin l (k + 1) _ _ (fun j hj => by have := hl (j + 1) (by simp; omega); simpa [Nat.add_assoc, Nat.add_comm 1 j] using this) (by simp only [List.length_cons] at hk; omega) (inv.set hr' (by omega)) hB' hK)
/-! one value, out of walks from wherever the region has come -/
def dstsB (t : Nat) : List Oper → Bool
  | [] => true
  | o :: l => (match o.dst with | some d => decide (d < t) && l.all (fun o' => o'.dst != some d) | none => false) && dstsB t l
theorem put_size (a : Act) (d : Option Tmp) (v : Value) : (a.put d v).tmps.size = a.tmps.size := by cases d <;> simp [Act.put]
theorem quiet_keeps {C : World → Prop} {A : Act} {d : Tmp} : ∀ (l : List Oper) (a : Act), (l.all fun o' => o'.dst != some d) = true → wpQuiet P ops C (fun a' => a' = A) l a → A.tmps[d]? = a.tmps[d]?
  | [], a, _, h => by rw [← (h : a = A)]
  | o :: l, a, hd, h => by
    simp only [List.all_cons, Bool.and_eq_true, bne_iff_ne, ne_eq] at hd
    have key : ∀ v, (a.put o.dst v).tmps[d]? = a.tmps[d]? := fun v => by
      cases ho : o.dst with
      | none => rfl
      | some e =>
        have : e ≠ d := fun he => hd.1 (by rw [ho, he])
        simp [Act.put, Array.getElem?_setIfInBounds_ne this]
    unfold wpQuiet at h
    split at h
    · obtain ⟨v, _, h2⟩ := h
      rw [quiet_keeps l _ hd.2 h2, key]
    · rw [quiet_keeps l _ hd.2 h, key]
theorem sure_of_quiet {A : Act} {Q : Act → Prop} (hQ : Q A) : ∀ (l : List Oper) (a : Act), dstsB a.tmps.size l = true → (∀ x : More, wpQuiet P ops (fun u => ∃ y, u = grow (grow w x) y) (fun a' => a' = A) l a) → sureL P ops w Q l a
  | [], a, _, h => by have := h More.none_; unfold wpQuiet at this; subst this; exact hQ
  | o :: l, a, hd, h => by
    simp only [dstsB, Bool.and_eq_true] at hd
    obtain ⟨hd1, hd2⟩ := hd
    cases ho : o.dst with
    | none => rw [ho] at hd1; cases hd1
    | some d =>
      rw [ho] at hd1
      simp only [Bool.and_eq_true, decide_eq_true_eq] at hd1
      have fixed : ∀ v, wpQuiet P ops (fun u => ∃ y, u = grow (grow w More.none_) y) (fun a' => a' = A) l (a.put o.dst v) → A.tmps[d]? = some v := fun v hv => by
        rw [quiet_keeps l _ hd1.2 hv, ho]
        simp [Act.put, hd1.1]
      have fixed' : ∀ (x : More) v, wpQuiet P ops (fun u => ∃ y, u = grow (grow w x) y) (fun a' => a' = A) l (a.put o.dst v) → A.tmps[d]? = some v := fun x v hv => by
        rw [quiet_keeps l _ hd1.2 hv, ho]
        simp [Act.put, hd1.1]
      by_cases hw : Region.wanted o (yielded ops a.tmps) = true
      · have h0 := h More.none_
        unfold wpQuiet at h0
        rw [if_pos hw] at h0
        obtain ⟨v, _, h2⟩ := h0
        have hv := fixed v h2
        have each : ∀ x : More, (∀ u, (∃ y, u = grow (grow w x) y) → o.quietAt P a (fun u => ∃ y, u = grow (grow w x) y) u v) ∧ wpQuiet P ops (fun u => ∃ y, u = grow (grow w x) y) (fun a' => a' = A) l (a.put o.dst v) := fun x => by
          have hx := h x
          unfold wpQuiet at hx
          rw [if_pos hw] at hx
          obtain ⟨v', h1', h2'⟩ := hx
          have hv' := fixed' x v' h2'
          rw [hv] at hv'
          cases hv'
          exact ⟨h1', h2'⟩
        refine ⟨v, .inl ⟨hw, fun x => (each x).1 _ ⟨More.none_, rfl⟩⟩, ?_⟩
        exact sure_of_quiet hQ l _ (by rw [put_size]; exact hd2) fun x => (each x).2
      · refine ⟨undef, .inr ⟨by simpa using hw, rfl⟩, ?_⟩
        refine sure_of_quiet hQ l _ (by rw [put_size]; exact hd2) fun x => ?_
        have hx := h x
        unfold wpQuiet at hx
        rw [if_neg hw] at hx
        exact hx
end
section
variable {P : Program} {w : World}
def tailB (l : List Oper) (n : Nat) : Bool :=
  Region.noSelect l.toArray && decide (n < l.length) && Region.sinkB .any l.toArray n && Region.chainB .any l.toArray n && lexH .any l.toArray (fun listed => Region.seqB .any l.toArray (l.length - n) n listed) n 0 (Array.replicate l.length false)
theorem inv0 (l : List Oper) (N : Nat) : HeadInv .any l.toArray N (Array.replicate l.length false) :=
  ⟨by simp, fun j oj _ hl => (by rw [getD_replicate_false] at hl; cases hl), fun t _ ht => getD_in (by simpa using ht) (getD_replicate_false _ _)⟩
/-- The region's first n operations read or are such calls; the rest goes in one order. A: the frame behind the first n. -/
theorem wp_region_tail {id : Nat} {Q : Exit → Act → World → Prop} {a : Act} {l : List Oper} (n : Nat) (A : Act) (hm : P.follows .mixedOrders = true) (hB : tailB l n = true) (hd : dstsB a.tmps.size (l.take n) = true)
    (h : ∀ x : More, wpQuiet P l.toArray (fun u => ∃ y, u = grow (grow w x) y) (fun a' => a' = A) (l.take n) a)
    (ht : ∀ x : More, wpList P l.toArray Q (l.drop n) A (grow w x)) : (Code.region id l.toArray true).wp P Q a w := by
  simp only [tailB, Bool.and_eq_true, decide_eq_true_eq] at hB
  obtain ⟨⟨⟨⟨hsel, hn⟩, hs⟩, hc⟩, hlex⟩ := hB
  have htl : (l.take n).length = n := by simp; omega
  refine wp_region_any hm ?_
  have hmk : Makes P l.toArray n none (.cells #[] 0) := fun d hd => by cases hd
  have hu : At w (.cells #[] 0) none { w with drawn := w.drawn + 1 } := grow_of (bel_drew (Below.refl _ _))
  have H := any_lex (P := P) (w := w) (md := .any) (ops := l.toArray) (n := n) (N := n) (alc := none) (obj := .cells #[] 0) (L := fun s listed a => s = none ∧ Region.seqB .any l.toArray (l.length - n) n listed = true ∧ a = A) (F := 0)
    (fin := fun listed => Region.seqB .any l.toArray (l.length - n) n listed) (Q := fun a => a = A) hmk hsel (Nat.le_refl _) (fun d hd => by cases hd) hs hc (by simpa using hn) (fun s listed a h => seqB_ready h.2.1)
    (fun listed a _ hf hq => ⟨rfl, hf, hq⟩) (l.take n) 0 (Array.replicate l.length false) a (fun j hj => by
      rw [htl] at hj
      simp [hj]) (by simpa using htl) (inv0 l n) (by rw [htl]; exact hlex) (sure_of_quiet (Q := fun a => a = A) rfl _ _ hd h)
  have S := any_sound (P := P) (Q' := Q) (g := l.length - n) hmk (fun s listed a u hu hl => by
    obtain ⟨rfl, hq, rfl⟩ := hl
    obtain ⟨x, rfl⟩ := hu
    have := wpAny_of_seq (md := .any) (Q' := Q) (ops := l.toArray) (l.drop n) n listed a (grow w x) (fun j => by simp [List.getElem?_drop]) (by simpa using hq) (ht x)
    simpa using this) _ _ _ _ _ hu H
  rw [htl, show n + 0 + (l.length - n) = l.length by omega] at S
  simpa using S
def makeB (l : List Oper) (n : Nat) : Bool :=
  Region.noSelect l.toArray && decide (n + 1 < l.length) && Region.sinkB .any l.toArray (n + 1) && Region.chainB .any l.toArray (n + 1) &&
  lexH .any l.toArray (fun listed => decide (Region.ready .any l.toArray listed = [n]) && Region.seqB .any l.toArray (l.length - (n + 1)) (n + 1) (listed.setIfInBounds n true)) n 0 (Array.replicate l.length false)
/-- The same, where operation n makes a block. -/
theorem wp_region_make {id : Nat} {Q : Exit → Act → World → Prop} {a : Act} {l : List Oper} (n : Nat) (A : Act) (d : Tmp) (obj : Obj) (hm : P.follows .mixedOrders = true) (hB : makeB l n = true) (hd : dstsB a.tmps.size (l.take n) = true)
    (hmk : Makes P l.toArray n (some d) obj)
    (h : ∀ x : More, wpQuiet P l.toArray (fun u => ∃ y, u = grow (grow w x) y) (fun a' => a' = A) (l.take n) a)
    (ht : ∀ x y : More, wpList P l.toArray Q (l.drop (n + 1)) (A.put (some d) (.pointer (some ⟨(grow w x).heap.size, 0, none⟩))) (grow ((grow w x).alloc obj) y)) : (Code.region id l.toArray true).wp P Q a w := by
  simp only [makeB, Bool.and_eq_true, decide_eq_true_eq] at hB
  obtain ⟨⟨⟨⟨hsel, hn⟩, hs⟩, hc⟩, hlex⟩ := hB
  have htl : (l.take n).length = n := by simp; omega
  refine wp_region_any hm ?_
  have hu : At w obj none { w with drawn := w.drawn + 1 } := grow_of (bel_drew (Below.refl _ _))
  have H := any_lex (P := P) (w := w) (md := .any) (ops := l.toArray) (n := n) (N := n + 1) (alc := some d) (obj := obj)
    (L := fun s listed a => Region.seqB .any l.toArray (l.length - (n + 1)) (n + 1) listed = true ∧ ∃ x, s = some x ∧ a = A.put (some d) (pt w x)) (F := 1)
    (fin := fun listed => decide (Region.ready .any l.toArray listed = [n]) && Region.seqB .any l.toArray (l.length - (n + 1)) (n + 1) (listed.setIfInBounds n true)) (Q := fun a => a = A) hmk hsel (by omega) (fun d hd => rfl) hs hc (by simpa using hn)
    (fun s listed a h => seqB_ready h.1)
    (fun listed a _ hf hq => by
      simp only [Bool.and_eq_true, decide_eq_true_eq] at hf
      refine ⟨by rw [hf.1]; simp, fun i hi => .inr ?_⟩
      rw [hf.1] at hi
      obtain rfl : i = n := by simpa using hi
      exact ⟨rfl, rfl, d, rfl, fun x => ⟨hf.2, x, rfl, by rw [hq]⟩⟩) (l.take n) 0 (Array.replicate l.length false) a (fun j hj => by
      rw [htl] at hj
      simp [hj]) (by simpa using htl) (inv0 l (n + 1)) (by rw [htl]; exact hlex) (sure_of_quiet (Q := fun a => a = A) rfl _ _ hd h)
  have S := any_sound (P := P) (Q' := Q) (g := l.length - (n + 1)) hmk (fun s listed a u hu hl => by
    obtain ⟨hq, x, rfl, rfl⟩ := hl
    obtain ⟨y, rfl⟩ := hu
    have := wpAny_of_seq (md := .any) (Q' := Q) (ops := l.toArray) (l.drop (n + 1)) (n + 1) listed (A.put (some d) (pt w x)) (grow ((grow w x).alloc obj) y) (fun j => by simp [List.getElem?_drop]) (by simpa using hq) (ht x y)
    simpa using this) _ _ _ _ _ hu H
  rw [htl, show n + 1 + (l.length - (n + 1)) = l.length by omega] at S
  simpa using S
end
end Go.Proofs.Ythadlpkdfnonjaa
namespace Go.Proofs.Ythadlpkdfnonjaa
open Go.RowKit
set_option linter.unusedVariables false
set_option linter.unusedSimpArgs false
end Go.Proofs.Ythadlpkdfnonjaa
namespace Go.Proofs.Ythadlpkdfnonjaa
open Go.RowKit
set_option linter.unusedVariables false
set_option linter.unusedSimpArgs false
end Go.Proofs.Ythadlpkdfnonjaa
