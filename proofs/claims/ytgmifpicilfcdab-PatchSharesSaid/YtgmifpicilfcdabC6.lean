/- What laws on surfaces ask ahead: WeighCage, great, Edged. A region in any order: reads and quiet calls, one block made, one store into it, and then a forced tail; operations that only read what the store leaves alone may fall behind it. No program is imported. Contracts of sums and products within bounds, and of the side on which a line passes an edge. Contracts of the bounds of a line and of points. Contracts of Normal, of the side of all three edges, and of Side. Contracts of the document's own Bound, of copies and of sameness. -/
import Derived.Deep.WholeRow
import Derived.Test.YtgmifpicilfcdabShelf
import Derived.Test.YtgmifpicilfcdabC1
import Derived.Test.YtgmifpicilfcdabC2
import Derived.Test.YtgmifpicilfcdabC4
import Derived.Test.YtgmifpicilfcdabC5
namespace Go.Proofs.Ytgmifpicilfcdab
open Go.RowKit
set_option linter.unusedVariables false
set_option linter.unusedSimpArgs false
set_option linter.unnecessarySimpa false
set_option maxRecDepth 100000


def tot (fs : List (List Int)) : Nat := (fs.map List.length).sum
theorem tot_take (fs : List (List Int)) (i : Nat) (h : i < fs.length) : tot (fs.take (i + 1)) = tot (fs.take i) + fs[i].length := by
  rw [List.take_succ_eq_append_getElem h]
  simp only [tot, List.map_append, List.sum_append, List.map_cons, List.map_nil, List.sum_cons, List.sum_nil]; omega
theorem waysL_len : ∀ (fs : List (List Int)) (k : Nat), (waysL k fs).length = tot fs
  | [], _ => rfl
  | x :: r, k => by rw [waysL, List.length_append, waysF_length, waysL_len r (k + 1)]; simp [tot]
set_option maxHeartbeats 2000000 in
theorem weigh_any (W : World) (A1 A2 A3 : Option Addr) (n1 n3 c1 c2 c3 most : Nat) (fs : List (List Int)) (hA : FL W A2 fs) (hm : most < 1048576) (h1 : n1 < 1099511627776000) (h2 : fs.length < 1099511627776000) (h3 : n3 < 1099511627776000) (hx : ∀ x ∈ fs, x.length < 1099511627776000) :
    Calls Try.prog 32 #[.agg #[.slice A1 n1 c1, .slice A2 fs.length c2, .slice A3 n3 c3], .int .i64 (most : Int)] W fun e W' => ∃ n : Nat, e = .returned (.int .i64 (n : Int)) ∧ Below W.heap.size W W' ∧ (most < n ∨ (n ≤ most ∧ n = n1 + n3 + fs.length + tot fs)) := by
  have hb0 : Below W.heap.size W (W.alloc (.cells #[.slice A1 n1 c1, .slice A2 fs.length c2, .slice A3 n3 c3] 26)) := bel_alloc (Below.refl _ _) _
  have hbx : Blk (W.alloc (.cells #[.slice A1 n1 c1, .slice A2 fs.length c2, .slice A3 n3 c3] 26)) W.heap.size 26 #[.slice A1 n1 c1, .slice A2 fs.length c2, .slice A3 n3 c3] := Blk.new _ _ _ _ rfl
  go_enter Try.func32, Try.ntmps32
  go_upto_region 1 with (fail)
  generalize W.alloc (.cells #[.slice A1 n1 c1, .slice A2 fs.length c2, .slice A3 n3 c3] 26) = W1 at *
  have x0 : W1.cell? ⟨W.heap.size, 0, none⟩ = some (.slice A1 n1 c1) := hbx.cell 0
  have x1 : W1.cell? ⟨W.heap.size, 1, none⟩ = some (.slice A2 fs.length c2) := hbx.cell 1
  have x2 : W1.cell? ⟨W.heap.size, 2, none⟩ = some (.slice A3 n3 c3) := hbx.cell 2
  have xl := hbx.lt
  by_cases d1 : (most : Int) < (n1 : Int)
  · go_wp2
    go_ret
    exact ⟨most + 1, by simp, hb0, .inl (by omega)⟩
  · by_cases d2 : (most : Int) < (n3 : Int)
    · go_wp2
      go_ret
      exact ⟨most + 1, by simp, hb0, .inl (by omega)⟩
    · by_cases d3 : (most : Int) < (fs.length : Int)
      · go_wp2
        go_ret
        exact ⟨most + 1, by simp, hb0, .inl (by omega)⟩
      · go_wp2
        go_loopw [5, 6] (fun nv i wr => wr = W1 ∧ ∃ j n : Nat, i = .int .i64 (j : Int) ∧ j ≤ fs.length ∧ nv = .int .i64 (n : Int) ∧ n = n1 + n3 + fs.length + tot (fs.take j) ∧ n < 1200000000000000) (fun _ i _ => fs.length - (intOf i).toNat)
        case atStart => exact ⟨rfl, 0, n1 + n3 + fs.length, rfl, by omega, by simp, by simp [tot], by omega⟩
        case round =>
          obtain ⟨rfl, j, n, rfl, hj, rfl, hn, hnl⟩ := hrel
          by_cases hlt : j < fs.length
          · obtain ⟨b, off, B, m, rfl, hbl, hc, _⟩ := (hA.below hb0).at_ j hlt
            have hxl := hx _ (List.getElem_mem hlt)
            have htk := tot_take fs j hlt
            generalize fs[j] = x at *
            have q0 : (0 : Int) ≤ (j : Int) := by omega
            have q1 : (j : Int) < (fs.length : Int) := by omega
            replace hn := Lib.hid hn
            replace htk := Lib.hid htk
            by_cases d4 : (n : Int) ≤ (most : Int)
            · go_wp2
              go_roundw
              case rel => exact ⟨trivial, j + 1, n + x.length, by go_num, by omega, by simp, by rw [htk.out]; have := hn.out; omega, by omega⟩
              case measure => simp [intOf]; omega
            · go_wp2
              go_ret
              exact ⟨n, rfl, hb0, .inl (by omega)⟩
          · obtain rfl : j = fs.length := by omega
            rw [List.take_length] at hn
            replace hn := Lib.hid hn
            go_wp2
            go_ret
            exact ⟨n, rfl, hb0, by have := hn.out; omega⟩
def edgedB (es : List Ed) (i : Int) : Bool := decide (0 ≤ i) && (match es[i.toNat]? with | some e => (e.f == -1) != (e.g == -1) | none => false)
set_option maxHeartbeats 2000000 in
theorem edged_any (W : World) (A1 A2 A3 : Option Addr) (n2 n3 c1 c2 c3 : Nat) (es : List Ed) (i : Int) (hE : EL W A1 es) :
    Calls Try.prog 58 #[.agg #[.slice A1 es.length c1, .slice A2 n2 c2, .slice A3 n3 c3], .int .i64 i] W fun e W' => e = .returned (.bool (edgedB es i)) ∧ Below W.heap.size W W' := by
  have hb0 : Below W.heap.size W (W.alloc (.cells #[.slice A1 es.length c1, .slice A2 n2 c2, .slice A3 n3 c3] 37)) := bel_alloc (Below.refl _ _) _
  have hbx : Blk (W.alloc (.cells #[.slice A1 es.length c1, .slice A2 n2 c2, .slice A3 n3 c3] 37)) W.heap.size 37 #[.slice A1 es.length c1, .slice A2 n2 c2, .slice A3 n3 c3] := Blk.new _ _ _ _ rfl
  go_enter Try.func58, Try.ntmps58
  go_wp2_with fail
  generalize W.alloc (.cells #[.slice A1 es.length c1, .slice A2 n2 c2, .slice A3 n3 c3] 37) = W1 at *
  have x0 : W1.cell? ⟨W.heap.size, 0, none⟩ = some (.slice A1 es.length c1) := hbx.cell 0
  have xl := hbx.lt
  by_cases d0 : (0 : Int) ≤ i
  · obtain ⟨j, rfl⟩ := Int.eq_ofNat_of_zero_le d0
    by_cases d1 : j < es.length
    · have d1i : (j : Int) < (es.length : Int) := by omega
      obtain ⟨b, off, rfl, hbl, hc⟩ := (hE.below hb0) (by omega)
      obtain ⟨_, _, hc2, hc3⟩ := hc j d1
      have hed : edgedB es (j : Int) = ((es[j].f == -1) != (es[j].g == -1)) := by simp [edgedB, d1]
      replace hed := Lib.hid hed
      clear hc hE hbx
      generalize hef : es[j].f = ef at *
      generalize heg : es[j].g = eg at *
      clear hef heg
      refine wp_region_grow (by kernel_rfl) (by kernel_rfl) ?_
      repeat (go_big_quiet_step ((fail)))
      refine wpQuiet_nil ?_
      rintro _ ⟨xg, rfl⟩
      have hb9 := bel_grow hb0 xg
      generalize grow W1 xg = W9 at *
      go_wp2
      go_ret
      exact ⟨by rw [hed.out]; try rfl, hb9⟩
    · have d1i : ¬(j : Int) < (es.length : Int) := by omega
      have hed : edgedB es (j : Int) = false := by simp [edgedB, List.getElem?_eq_none (Nat.le_of_not_lt d1)]
      replace hed := Lib.hid hed
      refine wp_region_grow (by kernel_rfl) (by kernel_rfl) ?_
      repeat (go_big_quiet_step ((fail)))
      refine wpQuiet_nil ?_
      rintro _ ⟨xg, rfl⟩
      have hb9 := bel_grow hb0 xg
      generalize grow W1 xg = W9 at *
      go_wp2
      go_ret
      exact ⟨by rw [hed.out]; try rfl, hb9⟩
  · have hed : edgedB es i = false := by simp [edgedB, d0]
    replace hed := Lib.hid hed
    refine wp_region_grow (by kernel_rfl) (by kernel_rfl) ?_
    repeat (go_big_quiet_step ((fail)))
    refine wpQuiet_nil ?_
    rintro _ ⟨xg, rfl⟩
    have hb9 := bel_grow hb0 xg
    generalize grow W1 xg = W9 at *
    go_wp2
    go_ret
    exact ⟨by rw [hed.out]; try rfl, hb9⟩
end Go.Proofs.Ytgmifpicilfcdab
namespace Go.Proofs.Ytgmifpicilfcdab
open Go.RowKit
set_option linter.unusedVariables false
set_option linter.unusedSimpArgs false
section
variable {P : Program} {ops : Array Oper} {w : World} {md : Region.Mode}
inductive Ph where
  | no
  | made (x : More)
  | kept (x : More)
def At2 (w : World) (obj obj' : Obj) : Ph → World → Prop
  | .no, u => ∃ x, u = grow w x
  | .made x, u => ∃ y, u = grow ((grow w x).alloc obj) y
  | .kept x, u => ∃ y, u = grow ((grow w x).alloc obj') y
theorem At2.grows {obj obj' : Obj} {s : Ph} {u : World} (h : At2 w obj obj' s u) : ∃ x, u = grow w x := by
  cases s with
  | no => exact h
  | made x =>
    obtain ⟨y, rfl⟩ := h
    exact grow_of (bel_grow (bel_alloc (bel_grow (Below.refl _ _) x) obj) y)
  | kept x =>
    obtain ⟨y, rfl⟩ := h
    exact grow_of (bel_grow (bel_alloc (bel_grow (Below.refl _ _) x) obj') y)
theorem At2.on {obj obj' : Obj} {s : Ph} {u : World} (h : At2 w obj obj' s u) (y : More) : At2 w obj obj' s (grow u y) := by
  cases s with
  | no => obtain ⟨x, rfl⟩ := h; exact ⟨x.then y, rfl⟩
  | made x => obtain ⟨z, rfl⟩ := h; exact ⟨z.then y, rfl⟩
  | kept x => obtain ⟨z, rfl⟩ := h; exact ⟨z.then y, rfl⟩
variable {n N : Nat} {alc : Tmp} {obj obj' : Obj} {L : Ph → Array Bool → Act → Prop}
/-- The store, from wherever the region has come behind the block's making. -/
def StoreAt (P : Program) (o : Oper) (a : Act) (w : World) (x : More) (obj obj' : Obj) : Prop :=
  o.guard = none ∧ o.dst = none ∧ ∀ y : More, ∃ y' : More, ∃ nx, (nx = .skip ∨ nx = .value undef) ∧ (execOp a.eval o).run P (grow ((grow w x).alloc obj) y) = .ok nx (grow ((grow w x).alloc obj') y')
theorem StoreAt.of_same {o : Oper} {a a' : Act} {x : More} (h : StoreAt P o a w x obj obj') (he : execOp a'.eval o = execOp a.eval o) : StoreAt P o a' w x obj obj' := by
  unfold StoreAt at *
  rw [he]
  exact h
def anyK (P : Program) (md : Region.Mode) (ops : Array Oper) (w : World) (n : Nat) (alc : Tmp) (obj obj' : Obj) (L : Ph → Array Bool → Act → Prop) : Nat → Ph → Array Bool → Act → Prop
  | 0, s, listed, a => L s listed a
  | f + 1, s, listed, a => Region.ready md ops listed ≠ [] ∧ ∀ i ∈ Region.ready md ops listed,
      (i < n ∧ sureOp P ops w i (anyK P md ops w n alc obj obj' L f s (listed.setIfInBounds i true)) a) ∨
      (i = n ∧ s = .no ∧ ∀ x, anyK P md ops w n alc obj obj' L f (.made x) (listed.setIfInBounds i true) (a.put (some alc) (pt w x))) ∨
      (i = n + 1 ∧ ∃ x o, s = .made x ∧ ops[n + 1]? = some o ∧ StoreAt P o a w x obj obj' ∧ anyK P md ops w n alc obj obj' L f (.kept x) (listed.setIfInBounds i true) (a.put none undef))
theorem anyK_sound {g : Nat} {Q' : Exit → Act → World → Prop} (hm : Makes P ops n (some alc) obj) (hL : ∀ s listed a u, At2 w obj obj' s u → L s listed a → wpAny P md ops Q' g listed a u) :
    ∀ (f : Nat) (s : Ph) (listed : Array Bool) (a : Act) (u : World), At2 w obj obj' s u → anyK P md ops w n alc obj obj' L f s listed a → wpAny P md ops Q' (f + g) listed a u
  | 0, s, listed, a, u, hu, h => by rw [Nat.zero_add]; exact hL _ _ _ _ hu h
  | f + 1, s, listed, a, u, hu, h => by
    rw [show f + 1 + g = (f + g) + 1 by omega]
    refine ⟨fun h0 => absurd h0 h.1, fun i hi => ?_⟩
    rcases h.2 i hi with ⟨_, o, v, ho, hy, hk⟩ | ⟨hin, hsn, hk⟩ | ⟨hin, x, o, hsx, ho, hst, hk⟩
    · unfold wpOp
      simp only [ho]
      rcases hy with ⟨hw, hv⟩ | ⟨hw, rfl⟩
      · rw [if_pos hw]
        left
        obtain ⟨x, rfl⟩ := hu.grows
        have h3 := hv x
        unfold Oper.quietAt at h3
        unfold Oper.wp
        generalize (execOp a.eval o).run P (grow w x) = r at *
        cases r with
        | ok nx w' =>
          cases nx <;> simp only [Oper.quietUpon] at h3 <;> simp only [Oper.upon]
          case value u' =>
            obtain ⟨e1, e2⟩ := h3
            rw [e1, e2]
            exact anyK_sound hm hL f _ _ _ _ hu hk
          case skip =>
            obtain ⟨e1, e2⟩ := h3
            rw [e1, ← e2]
            exact anyK_sound hm hL f _ _ _ _ hu hk
          case enter fn args =>
            obtain ⟨e1, hc⟩ := h3
            rw [e1]
            exact hc.mono fun e w'' ⟨he, y, hy⟩ => by
              subst he hy
              exact anyK_sound hm hL f _ _ _ _ (hu.on y) hk
        | halt x w' => simp only [Oper.quietUpon] at h3
      · rw [if_neg (by rw [hw]; exact Bool.false_ne_true)]
        exact anyK_sound hm hL f _ _ _ _ hu hk
    · obtain ⟨o, ho, hdst, hg, hrun⟩ := hm alc rfl
      rw [hsn] at hu
      obtain ⟨x, hux⟩ := hu
      unfold wpOp
      rw [hin] at hk ⊢
      simp only [ho]
      rw [if_pos (by simp [Region.wanted, hg])]
      left
      unfold Oper.wp
      rw [hrun]
      simp only [Oper.upon, hdst]
      rw [hux]
      exact anyK_sound hm hL f (.made x) _ _ _ ⟨More.none_, rfl⟩ (hk x)
    · obtain ⟨hg, hdst, hrun⟩ := hst
      rw [hsx] at hu
      obtain ⟨y, hux⟩ := hu
      unfold wpOp
      rw [hin] at hk ⊢
      simp only [ho]
      rw [if_pos (by simp [Region.wanted, hg])]
      left
      unfold Oper.wp
      obtain ⟨y', nx, hnx, hr⟩ := hrun y
      rw [hux, hr]
      rcases hnx with rfl | rfl <;> simp only [Oper.upon, hdst] <;> exact anyK_sound hm hL f (.kept x) _ _ _ ⟨y', rfl⟩ hk
theorem anyK_first {i : Nat} {oi : Oper} {v : Value} (hm : Makes P ops n (some alc) obj) (hi : ops[i]? = some oi) (hsel : ∀ (j : Nat) (o : Oper) cs b, ops[j]? = some o → o.op ≠ .select cs b) (hin : i < n) (hN : N = n + 2)
    (hs : Region.sinkB md ops N = true) (hc : Region.chainB md ops N = true) (hNs : N < ops.size) (hdone : ∀ s listed a, L s listed a → ∀ j ∈ Region.ready md ops listed, N ≤ j) :
    ∀ (f : Nat) (s : Ph) (listed : Array Bool) (a : Act), HeadInv md ops N listed →
      (∀ j oj, ops[j]? = some oj → j ≠ i → listed.getD j true = false → (∀ e ∈ oj.after, Region.binds md e = true → e.on ≠ i) → oi.apart ops oj = true) →
      i ∈ Region.ready md ops listed → Sure P ops w oi v a →
      anyK P md ops w n alc obj obj' L f s (listed.setIfInBounds i true) (a.put oi.dst v) → anyK P md ops w n alc obj obj' L (f + 1) s listed a := by
  intro f
  induction f with
  | zero =>
    intro s listed a inv _ hr hy H
    have hun := (mem_ready.1 hr).1
    refine ⟨fun h => (by rw [h] at hr; cases hr), fun j hj => ?_⟩
    have hjn : j < N := by
      rcases Nat.lt_or_ge j N with h | h
      · exact h
      · exact absurd hj (tail_waits hs hc hNs inv _ i rfl (by omega) hun j h)
    by_cases hji : j = i
    · subst hji; exact .inl ⟨hin, oi, v, hi, hy, H⟩
    · have := hdone _ _ _ H j (ready_mono hj hji)
      omega
  | succ f ih =>
    intro s listed a inv hfree hr hy H
    have hun := (mem_ready.1 hr).1
    refine ⟨fun h => (by rw [h] at hr; cases hr), fun j hj => ?_⟩
    have hjn : j < N := by
      rcases Nat.lt_or_ge j N with h | h
      · exact h
      · exact absurd hj (tail_waits hs hc hNs inv _ i rfl (by omega) hun j h)
    by_cases hji : j = i
    · subst hji; exact .inl ⟨hin, oi, v, hi, hy, H⟩
    · obtain ⟨hjun, oj, hoj, hall⟩ := mem_ready.1 hj
      have hnot : ∀ e ∈ oj.after, Region.binds md e = true → e.on ≠ i := fun e he hb heq => by
        have h1 := hall e he hb
        rw [heq, getD_both hun] at h1
        cases h1
      obtain ⟨p1, p2, p3⟩ := Oper.apart_spec (hfree j oj hoj hji hjun hnot)
      have hfree' : ∀ k ok, ops[k]? = some ok → k ≠ i → (listed.setIfInBounds j true).getD k true = false →
          (∀ e ∈ ok.after, Region.binds md e = true → e.on ≠ i) → oi.apart ops ok = true := fun k ok hk hki hun' hno => by
        refine hfree k ok hk hki ?_ hno
        by_cases hjk : j = k
        · subst hjk; exact hjun
        · rw [getD_set_ne true hjk] at hun'; exact hun'
      have go : ∀ (s' : Ph) (u : Value), anyK P md ops w n alc obj obj' L f s' ((listed.setIfInBounds i true).setIfInBounds j true) ((a.put oi.dst v).put oj.dst u) →
          anyK P md ops w n alc obj obj' L (f + 1) s' (listed.setIfInBounds j true) (a.put oj.dst u) := fun s' u h => by
        refine ih s' (listed.setIfInBounds j true) (a.put oj.dst u) (inv.set hj hjn) hfree' (ready_mono hr (Ne.symm hji)) (hy.put (fun cs b => hsel i oi cs b hi) p3) ?_
        rw [Array.setIfInBounds_comm _ _ hji, ← Act.put_comm a v u p2]
        exact h
      rcases H.2 j (ready_mono hj hji) with ⟨hj2, oj', u, hoj', hyj, hk⟩ | ⟨hj2, hs2, hk⟩ | ⟨hj2, x, o, hs2, ho, hst, hk⟩
      · obtain rfl : oj = oj' := Option.some.inj (hoj.symm.trans hoj')
        exact .inl ⟨hj2, oj, u, hoj, hyj.unput (fun cs b => hsel j oj cs b hoj) p1, go s u hk⟩
      · obtain ⟨o, ho, hdst, _, _⟩ := hm alc rfl
        subst hj2
        obtain rfl : oj = o := Option.some.inj (hoj.symm.trans ho)
        refine .inr (.inl ⟨rfl, hs2, fun x => ?_⟩)
        have := go (.made x) (pt w x)
        rw [hdst] at this
        exact this (hk x)
      · subst hj2
        obtain rfl : oj = o := Option.some.inj (hoj.symm.trans ho)
        have hd0 := hst.2.1
        refine .inr (.inr ⟨rfl, x, oj, hs2, hoj, hst.of_same (execOp_put oj (fun cs b => hsel _ oj cs b hoj) a oi.dst v p1).symm, ?_⟩)
        have := go (.kept x) undef
        rw [hd0] at this
        exact this hk
theorem anyK_lex {F : Nat} {fin : Array Bool → Bool} {Q : Act → Prop} (hm : Makes P ops n (some alc) obj) (hsel : Region.noSelect ops = true) (hN : N = n + 2)
    (hs : Region.sinkB md ops N = true) (hc : Region.chainB md ops N = true) (hNs : N < ops.size) (hdone : ∀ s listed a, L s listed a → ∀ j ∈ Region.ready md ops listed, N ≤ j)
    (hfin : ∀ listed a, HeadInv md ops N listed → fin listed = true → Q a → anyK P md ops w n alc obj obj' L F .no listed a) :
    ∀ (l : List Oper) (k : Nat) (listed : Array Bool) (a : Act), (∀ j, j < l.length → l[j]? = ops[k + j]?) → k + l.length = n → HeadInv md ops N listed →
    lexH md ops fin l.length k listed = true → sureL P ops w Q l a → anyK P md ops w n alc obj obj' L (l.length + F) .no listed a
  | [], k, listed, a, _, hk, inv, hB, h => by
    simp only [List.length_nil, Nat.zero_add]
    exact hfin listed a inv (by simpa [lexH] using hB) h
  | o :: l, k, listed, a, hl, hk, inv, hB, h => by
    have h0 : ops[k]? = some o := by simpa using (hl 0 (by simp)).symm
    simp only [List.length_cons, lexH, Bool.and_eq_true] at hB
    obtain ⟨⟨hr, hf⟩, hB'⟩ := hB
    have hkn : k < n := by simp only [List.length_cons] at hk; omega
    have hr' : k ∈ Region.ready md ops listed := by simpa using hr
    obtain ⟨v, hy, hK⟩ := h
    rw [show (o :: l).length + F = (l.length + F) + 1 by simp only [List.length_cons]; omega]
    exact anyK_first hm h0 (Region.noSelect_spec hsel) hkn hN hs hc hNs hdone (l.length + F) .no listed a inv (Region.free_spec h0 hf) hr' hy
      (anyK_lex hm hsel hN hs hc hNs hdone hfin l (k + 1) _ _ (fun j hj => by have := hl (j + 1) (by simp; omega); simpa [Nat.add_assoc, Nat.add_comm 1 j] using this) (by simp only [List.length_cons] at hk; omega) (inv.set hr' (by omega)) hB' hK)
end
section
variable {P : Program} {w : World}
def keepB (l : List Oper) (n : Nat) : Bool :=
  Region.noSelect l.toArray && decide (n + 2 < l.length) && Region.sinkB .any l.toArray (n + 2) && Region.chainB .any l.toArray (n + 2) &&
  lexH .any l.toArray (fun listed => decide (Region.ready .any l.toArray listed = [n]) && decide (Region.ready .any l.toArray (listed.setIfInBounds n true) = [n + 1]) && Region.seqB .any l.toArray (l.length - (n + 2)) (n + 2) ((listed.setIfInBounds n true).setIfInBounds (n + 1) true)) n 0 (Array.replicate l.length false)
/-- Operation n makes a block, operation n + 1 stores into it, the rest in one forced order; the first n in any order, some of them perhaps behind the store. -/
theorem wp_region_keep {id : Nat} {Q : Exit → Act → World → Prop} {a : Act} {l : List Oper} (n : Nat) (A : Act) (d : Tmp) (obj obj' : Obj) (hm : P.follows .mixedOrders = true) (hB : keepB l n = true) (hd : dstsB a.tmps.size (l.take n) = true)
    (hmk : Makes P l.toArray n (some d) obj)
    (h : ∀ x : More, wpQuiet P l.toArray (fun u => ∃ y, u = grow (grow w x) y) (fun a' => a' = A) (l.take n) a)
    (hst : ∀ x : More, ∃ o, l[n + 1]? = some o ∧ StoreAt P o (A.put (some d) (.pointer (some ⟨(grow w x).heap.size, 0, none⟩))) w x obj obj')
    (ht : ∀ x y : More, wpList P l.toArray Q (l.drop (n + 2)) (A.put (some d) (.pointer (some ⟨(grow w x).heap.size, 0, none⟩))) (grow ((grow w x).alloc obj') y)) : (Code.region id l.toArray true).wp P Q a w := by
  simp only [keepB, Bool.and_eq_true, decide_eq_true_eq] at hB
  obtain ⟨⟨⟨⟨hsel, hn⟩, hs⟩, hc⟩, hlex⟩ := hB
  have htl : (l.take n).length = n := by simp; omega
  refine wp_region_any hm ?_
  have hu : At2 w obj obj' .no { w with drawn := w.drawn + 1 } := grow_of (bel_drew (Below.refl _ _))
  have H := anyK_lex (P := P) (w := w) (md := .any) (ops := l.toArray) (n := n) (N := n + 2) (alc := d) (obj := obj) (obj' := obj')
    (L := fun s listed a => Region.seqB .any l.toArray (l.length - (n + 2)) (n + 2) listed = true ∧ ∃ x, s = .kept x ∧ a = A.put (some d) (pt w x)) (F := 2)
    (fin := fun listed => decide (Region.ready .any l.toArray listed = [n]) && decide (Region.ready .any l.toArray (listed.setIfInBounds n true) = [n + 1]) && Region.seqB .any l.toArray (l.length - (n + 2)) (n + 2) ((listed.setIfInBounds n true).setIfInBounds (n + 1) true)) (Q := fun a => a = A) hmk hsel rfl hs hc (by simpa using hn)
    (fun s listed a h => seqB_ready h.1)
    (fun listed a _ hf hq => by
      simp only [Bool.and_eq_true, decide_eq_true_eq] at hf
      refine ⟨by rw [hf.1.1]; simp, fun i hi => .inr (.inl ?_)⟩
      rw [hf.1.1] at hi
      obtain rfl : i = n := by simpa using hi
      refine ⟨rfl, rfl, fun x => ⟨by rw [hf.1.2]; simp, fun j hj => .inr (.inr ?_)⟩⟩
      rw [hf.1.2] at hj
      obtain rfl : j = i + 1 := by simpa using hj
      obtain ⟨o, ho, hst'⟩ := hst x
      exact ⟨rfl, x, o, rfl, by simpa using ho, by rw [hq]; exact hst', hf.2, x, rfl, by rw [hq]; rfl⟩) (l.take n) 0 (Array.replicate l.length false) a (fun j hj => by
      rw [htl] at hj
      simp [hj]) (by simpa using htl) (inv0 l (n + 2)) (by rw [htl]; exact hlex) (sure_of_quiet (Q := fun a => a = A) rfl _ _ hd h)
  have S := anyK_sound (P := P) (Q' := Q) (g := l.length - (n + 2)) hmk (fun s listed a u hu hl => by
    obtain ⟨hq, x, rfl, rfl⟩ := hl
    obtain ⟨y, rfl⟩ := hu
    have := wpAny_of_seq (md := .any) (Q' := Q) (ops := l.toArray) (l.drop (n + 2)) (n + 2) listed (A.put (some d) (pt w x)) (grow ((grow w x).alloc obj') y) (fun j => by simp [List.getElem?_drop]) (by simpa using hq) (ht x y)
    simpa using this) _ _ _ _ _ hu H
  rw [htl, show n + 2 + (l.length - (n + 2)) = l.length by omega] at S
  simpa using S
end
theorem storeAt_row {P : Program} {w : World} (t : TypeId) (c c' : Array Value) {o : Oper} {a : Act} {x : More} (p v : Operand) (ho : o.op = .store t p v) (hg : o.guard = none) (hd : o.dst = none) (hp : a.eval p = .pointer (some ⟨(grow w x).heap.size, 0, none⟩)) (hv : a.eval v = .agg c') (hi : (P.info? t).map (·.size) = some c'.size) (hs : c.size = c'.size) (h1 : c'.all (·.oneCell') = true) : StoreAt P o a w x (.cells c t) (.cells c' t) := by
  refine ⟨hg, hd, fun y => ⟨More.setR y ((grow w x).alloc (.cells c t)) (grow w x).heap.size c', .skip, .inl rfl, ?_⟩⟩
  have hlt : (grow w x).heap.size < ((grow w x).alloc (.cells c t)).heap.size := by rw [World.size_alloc]; omega
  have hh : (grow ((grow w x).alloc (.cells c t)) y).heap[(grow w x).heap.size]? = some (.cells c t) := by
    rw [grow_heap, if_pos hlt]
    exact heap_alloc_new _ _
  unfold execOp
  rw [ho]
  simp only [hp, hv, Instr.storeAt, Instr.sureAddr, Sem.run_bind, Sem.run_pure, Result.andThen]
  rw [run_storeVar_row _ _ t t c c' hh hi hs h1, grow_setRow _ _ _ _ hlt, World.setRow_alloc_new]
end Go.Proofs.Ytgmifpicilfcdab
namespace Go.Proofs.Ytgmifpicilfcdab
open Go.RowKit
set_option linter.unusedVariables false
set_option linter.unusedSimpArgs false
theorem wrap_in {x : Int} (h : -4611686018427387904 ≤ x ∧ x ≤ 4611686018427387904) : wrap64 x = x := by unfold wrap64; omega
theorem vSub_P (a b : P3) (h : InP 4611686018427387904 (sb a b)) : Gives Try.prog 47 #[.agg #[.int .i64 a.x, .int .i64 a.y, .int .i64 a.z], .agg #[.int .i64 b.x, .int .i64 b.y, .int .i64 b.z]] (.agg #[.int .i64 (sb a b).x, .int .i64 (sb a b).y, .int .i64 (sb a b).z]) := by
  have k := vSub_any a.x a.y a.z b.x b.y b.z
  obtain ⟨h1, h2, h3⟩ := h
  rw [show wrap64 (a.x - b.x) = (sb a b).x from wrap_in h1, show wrap64 (a.y - b.y) = (sb a b).y from wrap_in h2, show wrap64 (a.z - b.z) = (sb a b).z from wrap_in h3] at k
  exact k
theorem vCross_P (a b : P3) (m n : Int) (ha : InP m a) (hb : InP n b) (h : m * n ≤ 1152921504606846976) : Gives Try.prog 48 #[.agg #[.int .i64 a.x, .int .i64 a.y, .int .i64 a.z], .agg #[.int .i64 b.x, .int .i64 b.y, .int .i64 b.z]] (.agg #[.int .i64 (cr a b).x, .int .i64 (cr a b).y, .int .i64 (cr a b).z]) := by
  have k := vCross_any a.x a.y a.z b.x b.y b.z
  obtain ⟨a1, a2, a3⟩ := ha
  obtain ⟨b1, b2, b3⟩ := hb
  have p1 := mul_bd a2 b3
  have p2 := mul_bd a3 b2
  have p3 := mul_bd a3 b1
  have p4 := mul_bd a1 b3
  have p5 := mul_bd a1 b2
  have p6 := mul_bd a2 b1
  rw [wrap_in (x := a.y * b.z) (by omega), wrap_in (x := a.z * b.y) (by omega), wrap_in (x := a.z * b.x) (by omega), wrap_in (x := a.x * b.z) (by omega), wrap_in (x := a.x * b.y) (by omega), wrap_in (x := a.y * b.x) (by omega)] at k
  rw [show wrap64 (a.y * b.z - a.z * b.y) = (cr a b).x from wrap_in (by omega), show wrap64 (a.z * b.x - a.x * b.z) = (cr a b).y from wrap_in (by omega), show wrap64 (a.x * b.y - a.y * b.x) = (cr a b).z from wrap_in (by omega)] at k
  exact k
theorem cmp0_any (x : Int) : Gives Try.prog 76 #[.int .i64 x, .int .i64 0] (.int .i64 (sgn x)) := by
  intro w
  refine (Try.cmp_Compare_int x 0 w).mono ?_
  rintro e w' ⟨rfl, rfl⟩
  refine ⟨?_, grow_of (Below.refl _ _)⟩
  have : Lib.compareInt x 0 = sgn x := by unfold Lib.compareInt sgn; (repeat' split) <;> omega
  rw [this]
theorem orI_0 {t x y z : Int} (h : t ≠ 0) : orI t x y z = t := by unfold orI; simp [h]
theorem orI_1 {x y z : Int} (h : x ≠ 0) : orI 0 x y z = x := by unfold orI; simp [h]
theorem orI_2 {y z : Int} (h : y ≠ 0) : orI 0 0 y z = y := by unfold orI; simp [h]
theorem orI_3 {z : Int} : orI 0 0 0 z = z := by unfold orI; simp
def orR (t x y z : Int) (i : Value) : Prop := i = .int .i64 0 ∨ (i = .int .i64 1 ∧ t = 0) ∨ (i = .int .i64 2 ∧ t = 0 ∧ x = 0) ∨ (i = .int .i64 3 ∧ t = 0 ∧ x = 0 ∧ y = 0) ∨ (i = .int .i64 4 ∧ t = 0 ∧ x = 0 ∧ y = 0 ∧ z = 0)
set_option maxHeartbeats 1000000 in
theorem or_any (w : World) (b : Nat) (t x y z : Int) (c0 : w.cell? ⟨b, 0, none⟩ = some (.int .i64 t)) (c1 : w.cell? ⟨b, 1, none⟩ = some (.int .i64 x)) (c2 : w.cell? ⟨b, 2, none⟩ = some (.int .i64 y)) (c3 : w.cell? ⟨b, 3, none⟩ = some (.int .i64 z)) :
    Calls Try.prog 75 #[.slice (some ⟨b, 0, none⟩) 4 4] w fun e w' => e = .returned (.int .i64 (orI t x y z)) ∧ w' = w := by
  go_enter Try.func75, Try.ntmps75
  go_wp2
  go_loop [8] (fun i => orR t x y z i) (fun i => (4 - intOf i).toNat)
  case atStart => exact .inl rfl
  case round =>
    unfold orR at hrel
    rcases hrel with rfl | ⟨rfl, rfl⟩ | ⟨rfl, rfl, rfl⟩ | ⟨rfl, rfl, rfl, rfl⟩ | ⟨rfl, rfl, rfl, rfl, rfl⟩
    · by_cases h : t = 0
      · subst h
        go_wp2
        go_round
        case rel => exact .inr (.inl ⟨rfl, rfl⟩)
        case measure => simp [intOf]
      · have h1 : (t != 0) = true := by simpa using h
        go_wp2
        go_ret
        exact ⟨by rw [orI_0 h]; rfl, rfl⟩
    · by_cases h : x = 0
      · subst h
        go_wp2
        go_round
        case rel => exact .inr (.inr (.inl ⟨rfl, rfl, rfl⟩))
        case measure => simp [intOf]
      · have h1 : (x != 0) = true := by simpa using h
        go_wp2
        go_ret
        exact ⟨by rw [orI_1 h]; rfl, rfl⟩
    · by_cases h : y = 0
      · subst h
        go_wp2
        go_round
        case rel => exact .inr (.inr (.inr (.inl ⟨rfl, rfl, rfl, rfl⟩)))
        case measure => simp [intOf]
      · have h1 : (y != 0) = true := by simpa using h
        go_wp2
        go_ret
        exact ⟨by rw [orI_2 h]; rfl, rfl⟩
    · by_cases h : z = 0
      · subst h
        go_wp2
        go_round
        case rel => exact .inr (.inr (.inr (.inr ⟨rfl, rfl, rfl, rfl, rfl⟩)))
        case measure => simp [intOf]
      · have h1 : (z != 0) = true := by simpa using h
        go_wp2
        go_ret
        exact ⟨by rw [orI_3]; rfl, rfl⟩
    · go_wp2
      go_ret
      exact ⟨by rw [orI_3]; rfl, rfl⟩
theorem or_at (W : World) (t x y z : Int) : Calls Try.prog 75 #[.slice (some ⟨W.heap.size, 0, none⟩) 4 4] (W.alloc (.cells #[.int .i64 t, .int .i64 x, .int .i64 y, .int .i64 z] 3)) fun e w' => e = .returned (.int .i64 (orI t x y z)) ∧ w' = W.alloc (.cells #[.int .i64 t, .int .i64 x, .int .i64 y, .int .i64 z] 3) :=
  or_any _ _ t x y z (by simp [go_sem]) (by simp [go_sem]) (by simp [go_sem]) (by simp [go_sem])
theorem alloc_V (a : Act) (o : Oper) (ho : o.op = .alloc 43) (w : World) : (execOp a.eval o).run Try.prog w = .ok (.value (.pointer (some ⟨w.heap.size, 0, none⟩))) (w.alloc (.cells #[.int .i64 0, .int .i64 0, .int .i64 0] 43)) := by
  unfold execOp
  rw [ho]
  kernel_rfl
end Go.Proofs.Ytgmifpicilfcdab
namespace Go.Proofs.Ytgmifpicilfcdab
open Go.RowKit
set_option linter.unusedVariables false
set_option linter.unusedSimpArgs false
/-- May a line be reckoned with? -/
def nz (d : P3) : Bool := !(d.x == 0 && d.y == 0 && d.z == 0)
def lnB (o d : P3) : Bool := nz d && wiB d.x d.y d.z 32768 && wiB o.x o.y o.z 65536
def inB3 (a : P3) : Bool := wiB a.x a.y a.z 65536
def insF (p : Nat → Int × Int × Int) : Nat → Bool
  | 0 => true
  | k + 1 => insF p k && wiB (p k).1 (p k).2.1 (p k).2.2 65536
theorem insF_no (p : Nat → Int × Int × Int) (k : Nat) (h : wiB (p k).1 (p k).2.1 (p k).2.2 65536 = false) : ∀ n, k < n → insF p n = false
  | 0, hn => by omega
  | n + 1, hn => by
    unfold insF
    by_cases e : k = n
    · subst e; rw [h]; simp
    · rw [insF_no p k h n (by omega)]; rfl
theorem nz_cases {dx dy dz : Int} (h : nz ⟨dx, dy, dz⟩ = true) : dx ≠ 0 ∨ (dx = 0 ∧ dy ≠ 0) ∨ dx = 0 ∧ dy = 0 ∧ dz ≠ 0 := by
  unfold nz at h; simp at h; omega
end Go.Proofs.Ytgmifpicilfcdab
namespace Go.Proofs.Ytgmifpicilfcdab
open Go.RowKit
set_option linter.unusedVariables false
set_option linter.unusedSimpArgs false
/-- Points one after another. -/
def row2 (a b : P3) (i : Nat) : Int × Int × Int := if i = 0 then (a.x, a.y, a.z) else (b.x, b.y, b.z)
def row3 (a b c : P3) (i : Nat) : Int × Int × Int := if i = 0 then (a.x, a.y, a.z) else if i = 1 then (b.x, b.y, b.z) else (c.x, c.y, c.z)
theorem ins2 (a b : P3) : insF (row2 a b) 2 = (inB3 a && inB3 b) := by
  unfold insF insF insF row2 inB3; simp
theorem ins3 (a b c : P3) : insF (row3 a b c) 3 = (inB3 a && inB3 b && inB3 c) := by
  unfold insF insF insF insF row3 inB3; simp
theorem VF2 (w : World) (N : Nat) (hN : N = w.heap.size) (t : TypeId) (a b : P3) : VF (w.alloc (.cells #[.int .i64 a.x, .int .i64 a.y, .int .i64 a.z, .int .i64 b.x, .int .i64 b.y, .int .i64 b.z] t)) (some ⟨N, 0, none⟩) 2 (row2 a b) := fun _ => by
  subst hN
  refine ⟨_, 0, rfl, by simp, fun i hi => ?_⟩
  match i, hi with
  | 0, _ => exact ⟨by simp [go_sem, row2], by simp [go_sem, row2], by simp [go_sem, row2]⟩
  | 1, _ => exact ⟨by simp [go_sem, row2], by simp [go_sem, row2], by simp [go_sem, row2]⟩
theorem VF3 (w : World) (N : Nat) (hN : N = w.heap.size) (t : TypeId) (a b c : P3) : VF (w.alloc (.cells #[.int .i64 a.x, .int .i64 a.y, .int .i64 a.z, .int .i64 b.x, .int .i64 b.y, .int .i64 b.z, .int .i64 c.x, .int .i64 c.y, .int .i64 c.z] t)) (some ⟨N, 0, none⟩) 3 (row3 a b c) := fun _ => by
  subst hN
  refine ⟨_, 0, rfl, by simp, fun i hi => ?_⟩
  match i, hi with
  | 0, _ => exact ⟨by simp [go_sem, row3], by simp [go_sem, row3], by simp [go_sem, row3]⟩
  | 1, _ => exact ⟨by simp [go_sem, row3], by simp [go_sem, row3], by simp [go_sem, row3]⟩
  | 2, _ => exact ⟨by simp [go_sem, row3], by simp [go_sem, row3], by simp [go_sem, row3]⟩
theorem inB3_sp {a : P3} : inB3 a = true ↔ Sp a := by
  unfold inB3 Sp InP; rw [wiB_iff]; simp
theorem lnB_in {o d : P3} (h : lnB o d = true) : Sp o ∧ Dr d := by
  unfold lnB at h
  simp only [Bool.and_eq_true] at h
  obtain ⟨⟨_, h1⟩, h2⟩ := h
  rw [wiB_iff] at h1 h2
  exact ⟨h2.2, h1.2⟩
/-- A line and a triangle within their bounds. -/
def bdB (o d a b c : P3) : Bool := lnB o d && (inB3 a && inB3 b && inB3 c)
theorem bdB_in {o d a b c : P3} (h : bdB o d a b c = true) : Sp o ∧ Dr d ∧ Sp a ∧ Sp b ∧ Sp c := by
  unfold bdB at h
  simp only [Bool.and_eq_true, inB3_sp] at h
  obtain ⟨h1, ⟨h2, h3⟩, h4⟩ := h
  exact ⟨(lnB_in h1).1, (lnB_in h1).2, h2, h3, h4⟩
def paR (s0 s1 s2 : Int) (i : Value) : Prop := i = .int .i64 0 ∨ (i = .int .i64 1 ∧ s1 = s0) ∨ (i = .int .i64 2 ∧ s1 = s0 ∧ s2 = s0)
/-- The side of all three edges; 0, if there is none. -/
def sd3 (s0 s1 s2 : Int) : Int := if s1 = s0 ∧ s2 = s0 then s0 else 0
def allS (o d a b c : P3) : Int := sd3 (pS o d c a) (pS o d a b) (pS o d b c)
/-- What Side answers. -/
def siB (o d a b : P3) : Bool := lnB o d && (inB3 a && inB3 b)
def siV (o d a b : P3) : Int := if siB o d a b then pS o d a b else 0
def siE (o d a b : P3) : Int := if siB o d a b then 0 else 21
end Go.Proofs.Ytgmifpicilfcdab
namespace Go.Proofs.Ytgmifpicilfcdab
open Go.RowKit
set_option linter.unusedVariables false
set_option linter.unusedSimpArgs false

end Go.Proofs.Ytgmifpicilfcdab
