/- The program's writer: a strings.Builder that lies in a struct of its own call. -/
import Derived.Test.YtdkgbdecmgligaaGreatDoorMLexQ
import Derived.Lib.Builder
import Derived.Lib.UnsafeStr
import Derived.Room.AppendStr
import Derived.Laws.Externs
import Derived.Test.YtdkgbdecmgligaaGreatDoorMScnDE
namespace Go.Proofs.YtdkgbdecmgligaaGreatDoor
open Go.RowKit
set_option linter.unusedVariables false
set_option linter.unusedSimpArgs false
set_option linter.unnecessarySimpa false
theorem sizBd : (Tryz.prog.info? 59).map (·.size) = some 2 := by kernel_rfl
theorem lies_wr : liesAt Tryz.prog Tryz.prog.depth 61 (3 / Tryz.prog.cellsOf 61) 0 59 1 = true := by kernel_rfl
set_option maxHeartbeats 1000000 in
set_option maxRecDepth 100000 in
theorem cc_used (b : Nat) (w : World) (h0 : w.cell? ⟨b, 0, none⟩ = some (.pointer (some ⟨b, 0, none⟩))) :
    Calls Tryz.prog 118 #[.pointer (some ⟨b, 0, none⟩)] w fun e w' => e = .returned (.tuple #[]) ∧ w' = w := by
  obtain ⟨j, hj, _⟩ := Option.map_eq_some_iff.1 sizBd
  go_enter Tryz.func118, Tryz.ntmps118
  go_wp2
  rw [Lib.run_neq_ptr_same w _ Tryz.underlying56 hj]
  go_wp2
  go_end0
  exact ⟨rfl, rfl⟩
set_option maxHeartbeats 1000000 in
set_option maxRecDepth 100000 in
theorem cc_fresh (b : Nat) (w : World) (h0 : w.cell? ⟨b, 0, none⟩ = some (.pointer none)) (hsh : w.shape? b = some (61, 3)) (hfz : w.frozen? ⟨b, 0, none⟩ = false) :
    Calls Tryz.prog 118 #[.pointer (some ⟨b, 0, none⟩)] w fun e w' => e = .returned (.tuple #[]) ∧ w' = w.setCell ⟨b, 0, none⟩ (.pointer (some ⟨b, 0, none⟩)) := by
  obtain ⟨j, hj, hjs⟩ := Option.map_eq_some_iff.1 sizBd
  go_enter Tryz.func118, Tryz.ntmps118
  go_wp2
  rw [Lib.run_to_unsafe w ⟨b, 0, none⟩ Tryz.underlying56 Tryz.underlying170 hj (by rw [hjs]; decide) hsh (Nat.zero_lt_succ 2)]
  simp only [Result.andThen]
  rw [Oper.upon_value]
  go_wp2
  rw [run_callFunc_extern Tryz.func134 (by kernel_rfl) (by kernel_rfl) (by kernel_rfl) (e := Extern.AbiNoEscape.same) (by kernel_rfl)]
  rw [Lib.run_noEscape]
  simp only [Result.andThen]
  rw [Oper.upon_value]
  go_wp2
  rw [Lib.run_from_unsafe w ⟨b, 0, none⟩ Tryz.underlying170 Tryz.underlying56 hj hsh lies_wr]
  simp only [Result.andThen]
  rw [Oper.upon_value]
  go_wp2
  go_end0
  exact ⟨rfl, rfl⟩
/-- All that is no row of bytes and no writer is kept; below the base all is. -/
def FrB (base : Nat) (W W' : World) : Prop := Below base W W' ∧ ∀ (j : Nat) (cs : Array Value) (T : TypeId), W.heap[j]? = some (.cells cs T (0, 0)) → T ≠ 5 → T ≠ 61 → W'.heap[j]? = W.heap[j]?
theorem FrB.refl (base : Nat) (W : World) : FrB base W W := ⟨Below.refl _ _, fun _ _ _ _ _ _ => rfl⟩
theorem FrB.trans {base : Nat} {W W1 W2 : World} (h1 : FrB base W W1) (h2 : FrB base W1 W2) : FrB base W W2 :=
  ⟨h1.1.trans h2.1, fun j cs T h a b => by
    have e := h1.2 j cs T h a b
    rw [h2.2 j cs T (e.trans h) a b, e]⟩
theorem FrB.of {base : Nat} {W W1 : World} (hb : base ≤ W.heap.size) (h : Below W.heap.size W W1) : FrB base W W1 :=
  ⟨h.mono hb, fun j cs T q _ _ => h.block j (Array.getElem?_eq_some_iff.1 q).1⟩
theorem FrB.set {base : Nat} {W : World} {g : Nat} {cs : Array Value} (hg : base ≤ g) (hb : Blk W g 61 cs) (i : Nat) (u : Value) : FrB base W (W.setCell ⟨g, i, none⟩ u) :=
  ⟨(Below.refl _ _).setCell hg _, fun j cs' T q _ hT => by
    have hne : j ≠ g := fun e => by
      subst e
      have := q.symm.trans hb
      injection this with this
      injection this with _ q2
      exact hT q2
    simp [World.setCell, Array.getElem?_modify, Ne.symm hne]⟩
theorem FrB.gb {base : Nat} {W W1 : World} {row : Option Nat} (hs : base ≤ W.heap.size) (h : W.grownBy W1 row) (ho : ∀ k, row = some k → base ≤ k ∧ ∃ cur, W.heap[k]? = some (.cells cur 5 (0, 0))) : FrB base W W1 :=
  ⟨⟨h.os, h.tape, h.output, h.size, fun k hk => h.block k (by omega) (fun e => by have := (ho k e.symm).1; omega)⟩, fun j cs T q hT _ => h.block j (Array.getElem?_eq_some_iff.1 q).1 (fun e => by
    obtain ⟨_, cur, q2⟩ := ho j e.symm
    have := q.symm.trans q2
    injection this with this
    injection this with _ q3
    exact hT q3)⟩
theorem ownT {W : World} {base : Nat} {T : TypeId} {sz n : Nat} {v : Value} {xs : List Value} (h : W.ownsRow base T sz v n xs) : ∀ k, v.ownBlock = some k → base ≤ k ∧ ∃ cur, W.heap[k]? = some (.cells cur T (0, 0)) := by
  intro k hk
  rcases h.2 with ⟨q, _⟩ | ⟨b, cap, cur, q1, q2, q3, _⟩
  · rw [q] at hk; cases hk
  · rw [q1] at hk
    cases hk
    exact ⟨q2, cur, q3⟩
theorem ownNe {W : World} {base : Nat} {sz n : Nat} {v : Value} {xs : List Value} (h : W.ownsRow base 5 sz v n xs) {g : Nat} {cs : Array Value} (hb : Blk W g 61 cs) : v.ownBlock ≠ some g := fun e => by
  obtain ⟨_, cur, q⟩ := ownT h g e
  have := q.symm.trans hb
  injection this with this
  injection this with _ q2
  revert q2; decide
/-- A writer: its block, its row of bytes, what it holds. -/
structure WU (base g : Nat) (W : World) (p v : Value) (l : List UInt8) (ov : Bool) : Prop where
  le : base ≤ g
  blk : Blk W g 61 #[p, v, .bool ov]
  own : W.ownsRow base 5 1 v l.length (Lib.byteCells l)
def WW (base g : Nat) (W : World) (l : List UInt8) (ov : Bool) : Prop := ∃ v, WU base g W (.pointer none) v l ov ∨ WU base g W (.pointer (some ⟨g, 0, none⟩)) v l ov
theorem WU.frb {base g : Nat} {W W1 : World} {p v : Value} {l : List UInt8} {ov : Bool} (h : WU base g W p v l ov) (hb : Below W.heap.size W W1) : WU base g W1 p v l ov := ⟨h.le, h.blk.below hb, own_below h.own hb⟩
theorem WW.below {base g : Nat} {W W1 : World} {l : List UInt8} {ov : Bool} (h : WW base g W l ov) (hb : Below W.heap.size W W1) : WW base g W1 l ov := by
  obtain ⟨v, h | h⟩ := h
  · exact ⟨v, .inl (h.frb hb)⟩
  · exact ⟨v, .inr (h.frb hb)⟩
theorem own_setB {W : World} {base : Nat} {T : TypeId} {sz n : Nat} {v : Value} {xs : List Value} (h : W.ownsRow base T sz v n xs) {g : Nat} (hne : v.ownBlock ≠ some g) (i : Nat) (u : Value) : (W.setCell ⟨g, i, none⟩ u).ownsRow base T sz v n xs :=
  h.kept (row := some g) ⟨rfl, rfl, rfl, by simp [World.setCell], fun j hj hn => by
    have : j ≠ g := fun e => hn (by rw [e])
    simp [World.setCell, Array.getElem?_modify, Ne.symm this]⟩ (.inr hne)
theorem cc_any {base g : Nat} {W : World} {l : List UInt8} {ov : Bool} (h : WW base g W l ov) :
    Calls Tryz.prog 118 #[.pointer (some ⟨g, 0, none⟩)] W fun e W' => e = .returned (.tuple #[]) ∧ (∃ v, WU base g W' (.pointer (some ⟨g, 0, none⟩)) v l ov) ∧ FrB base W W' := by
  obtain ⟨v, h | h⟩ := h
  · refine (cc_fresh g W (h.blk.cell 0) (by have := h.blk; unfold Blk at this; simp [World.shape?, this]) (h.blk.frozen 0)).mono ?_
    rintro e W' ⟨rfl, rfl⟩
    exact ⟨rfl, ⟨v, h.le, h.blk.set 0 _, own_setB h.own (ownNe h.own h.blk) 0 _⟩, FrB.set h.le h.blk 0 _⟩
  · refine (cc_used g W (h.blk.cell 0)).mono ?_
    rintro e W' ⟨rfl, rfl⟩
    exact ⟨rfl, ⟨v, h⟩, FrB.refl _ _⟩
theorem info8b : (Tryz.prog.info? 5).map (fun i => (i.zero, i.size, i.bytes)) = some (some (.int .u8 0), 1, 1) := by kernel_rfl
set_option maxHeartbeats 1000000 in
set_option maxRecDepth 100000 in
theorem ws_any {base g : Nat} {W : World} {l : List UInt8} {ov : Bool} (s : ByteArray) (h : WW base g W l ov) (hs : l.length + s.size ≤ 65536) :
    Calls Tryz.prog 89 #[.pointer (some ⟨g, 0, none⟩), .string s] W fun e W' => e = .returned (.tuple #[.int .i64 s.size, .nilIface]) ∧ WW base g W' (l ++ s.data.toList) ov ∧ FrB base W W' := by
  obtain ⟨i0, hi0, hz0, hz1, hz2⟩ := info_parts info8b
  have CC := Lib.hid (cc_any h)
  replace hs := Lib.hid hs
  clear h
  go_enter Tryz.func89, Tryz.ntmps89
  go_upto_region 2 with (go_at_call 118; (with_reducible refine Calls.mono CC.out ?_); rintro e W1 ⟨rfl, ⟨v, hU⟩, hF⟩)
  have b1 : W1.cell? ⟨g, 1, none⟩ = some v := hU.blk.cell 1
  have z1 := hU.blk.frozen 1
  have hgl := hU.blk.lt
  have hown := Lib.hid hU.own
  have hne := Lib.hid (ownNe hU.own hU.blk)
  obtain ⟨A, c, rfl⟩ := own_form hU.own
  replace hU := Lib.hid hU
  replace hF := Lib.hid hF
  go_upto_region 3 with (at_builtin; go_loud (refine Lib.wpList_append_own_string _ rfl _ _ 57 9 rfl base 5 i0 Tryz.underlying57 Tryz.underlying9 hi0 hz0 hz1 hz2 _ _ _ rfl hown.out s rfl (by have := hs.out; unfold maxLen; omega) (by have := hs.out; omega) (Nat.le_of_lt (Nat.lt_of_le_of_lt hU.out.le hgl)) ?_); intro v4 w4 hown4 hgr4 hnil4; clear hnil4; obtain ⟨A4, a4, rfl⟩ := own_form hown4; have hB4 : Blk w4 g 61 _ := (hgr4.block g hgl (fun e => hne.out e.symm)).trans hU.out.blk; have c4 : w4.cell? ⟨g, 1, none⟩ = some (.slice A l.length c) := hB4.cell 1; have z4 := hB4.frozen 1; replace hB4 := Lib.hid hB4; replace hown4 := Lib.hid hown4; replace hgr4 := Lib.hid hgr4)
  go_wp2
  go_ret2
  refine ⟨rfl, ⟨_, .inr ⟨hU.out.le, hB4.out.set 1 _, ?_⟩⟩, ?_⟩
  · have e : (l ++ s.data.toList).length = l.length + s.size := by rw [List.length_append]; rfl
    have e2 : Lib.byteCells (l ++ s.data.toList) = Lib.byteCells l ++ Lib.strCells s := by unfold Lib.byteCells Lib.strCells; simp
    rw [e, e2]
    exact own_setB hown4.out (ownNe hown4.out hB4.out) 1 _
  · exact hF.out.trans ((FrB.gb (Nat.le_of_lt (Nat.lt_of_le_of_lt hU.out.le hgl)) hgr4.out (ownT hown.out)).trans (FrB.set hU.out.le hB4.out 1 _))
end Go.Proofs.YtdkgbdecmgligaaGreatDoor

/- The program's writer: put, and what is told of a state. -/
namespace Go.Proofs.YtdkgbdecmgligaaGreatDoor
open Go.RowKit
set_option linter.unusedVariables false
set_option linter.unusedSimpArgs false
set_option linter.unnecessarySimpa false
theorem WW.c1 {base g : Nat} {W : World} {l : List UInt8} {ov : Bool} (h : WW base g W l ov) : ∃ A c, W.cell? ⟨g, 1, none⟩ = some (.slice A l.length c) := by
  obtain ⟨v, h | h⟩ := h <;> (obtain ⟨A, c, rfl⟩ := own_form h.own; exact ⟨A, c, h.blk.cell 1⟩)
theorem WW.c2 {base g : Nat} {W : World} {l : List UInt8} {ov : Bool} (h : WW base g W l ov) : W.cell? ⟨g, 2, none⟩ = some (.bool ov) := by
  obtain ⟨v, h | h⟩ := h <;> exact h.blk.cell 2
theorem WW.z2 {base g : Nat} {W : World} {l : List UInt8} {ov : Bool} (h : WW base g W l ov) (i : Nat) : W.frozen? ⟨g, i, none⟩ = false := by
  obtain ⟨v, h | h⟩ := h <;> exact h.blk.frozen i
theorem WW.lt {base g : Nat} {W : World} {l : List UInt8} {ov : Bool} (h : WW base g W l ov) : g < W.heap.size := by
  obtain ⟨v, h | h⟩ := h <;> exact h.blk.lt
theorem WW.le {base g : Nat} {W : World} {l : List UInt8} {ov : Bool} (h : WW base g W l ov) : base ≤ g := by
  obtain ⟨v, h | h⟩ := h <;> exact h.le
theorem WW.over {base g : Nat} {W : World} {l : List UInt8} {ov : Bool} (h : WW base g W l ov) : WW base g (W.setCell ⟨g, 2, none⟩ (.bool true)) l true ∧ FrB base W (W.setCell ⟨g, 2, none⟩ (.bool true)) := by
  obtain ⟨v, h | h⟩ := h
  · exact ⟨⟨v, .inl ⟨h.le, h.blk.set 2 _, own_setB h.own (ownNe h.own h.blk) 2 _⟩⟩, FrB.set h.le h.blk 2 _⟩
  · exact ⟨⟨v, .inr ⟨h.le, h.blk.set 2 _, own_setB h.own (ownNe h.own h.blk) 2 _⟩⟩, FrB.set h.le h.blk 2 _⟩
theorem len_any {base g : Nat} {W : World} {l : List UInt8} {ov : Bool} (h : WW base g W l ov) :
    Calls Tryz.prog 88 #[.pointer (some ⟨g, 0, none⟩)] W fun e W' => e = .returned (.int .i64 l.length) ∧ W' = W := by
  obtain ⟨A, c, c1⟩ := h.c1
  have z := h.z2 1
  have hl := h.lt
  clear h
  go_enter Tryz.func88, Tryz.ntmps88
  go_wp2
  go_ret
  exact ⟨rfl, rfl⟩
/-- What is told is told whole, or the text is over. -/
def addT : Option (List UInt8) → List UInt8 → Option (List UInt8)
  | none, _ => none
  | some l, s => if 65536 < l.length + s.length then none else some (l ++ s)
def WX (base g : Nat) (W : World) (st : Option (List UInt8)) : Prop := ∃ l ov, WW base g W l ov ∧ l.length ≤ 65536 ∧ st = if ov then none else some l
theorem WX.below {base g : Nat} {W W1 : World} {st : Option (List UInt8)} (h : WX base g W st) (hb : Below W.heap.size W W1) : WX base g W1 st := by
  obtain ⟨l, ov, h1, h2, h3⟩ := h
  exact ⟨l, ov, h1.below hb, h2, h3⟩
theorem addT_some (l s : List UInt8) : addT (some l) s = if 65536 < l.length + s.length then none else some (l ++ s) := rfl
theorem addT_none (s : List UInt8) : addT none s = none := rfl
theorem addT_assoc (st : Option (List UInt8)) (a b : List UInt8) : addT (addT st a) b = addT st (a ++ b) := by
  cases st with
  | none => rfl
  | some l =>
    rw [addT_some, addT_some, List.length_append]
    by_cases h1 : 65536 < l.length + a.length
    · rw [if_pos h1, if_pos (by omega)]; rfl
    · rw [if_neg h1, addT_some, List.length_append]
      by_cases h2 : 65536 < l.length + (a.length + b.length)
      · rw [if_pos h2, if_pos (by omega)]
      · rw [if_neg h2, if_neg (by omega), List.append_assoc]
theorem addT_nil {st : Option (List UInt8)} (h : ∀ l, st = some l → l.length ≤ 65536) : addT st [] = st := by
  cases st with
  | none => rfl
  | some l =>
    have := h l rfl
    rw [addT_some, List.append_nil, if_neg (by simp; omega)]
set_option maxHeartbeats 1000000 in
set_option maxRecDepth 100000 in
theorem put_any {base g : Nat} {W : World} {st : Option (List UInt8)} (s : ByteArray) (hs : s.size ≤ 1000000) (h : WX base g W st) :
    Calls Tryz.prog 58 #[.pointer (some ⟨g, 0, none⟩), .string s] W fun e W' => e = .returned (.tuple #[]) ∧ WX base g W' (addT st s.data.toList) ∧ FrB base W W' := by
  obtain ⟨l, ov, hW, hl, rfl⟩ := h
  have hsl : s.data.toList.length = s.size := rfl
  have CL := Lib.hid (len_any hW)
  have c2 := hW.c2
  have z2 := hW.z2 2
  have hgl := hW.lt
  have hw : IntKind.i64.wrap ((l.length : Int) + (s.size : Int)) = (l.length : Int) + (s.size : Int) := IntWalk.i64_in _ (by omega)
  replace hsl := Lib.hid hsl
  by_cases hov : 65536 < l.length + s.size
  · have hov' : (65536 : Int) < (l.length : Int) + (s.size : Int) := by omega
    have hO := Lib.hid hW.over
    have hE := Lib.hid (show addT (some l) s.data.toList = none by rw [addT_some, if_pos (by rw [hsl.out]; exact hov)])
    clear hW hov
    go_enter Tryz.func58, Tryz.ntmps58
    go_wp2_with (go_at_call 88; (with_reducible refine Calls.mono CL.out ?_); rintro e _ ⟨rfl, rfl⟩)
    all_goals go_end0
    all_goals (refine ⟨rfl, ?_, hO.out.2⟩; (first | rw [hE.out] | rw [addT_none]); exact ⟨l, true, hO.out.1, hl, rfl⟩)
  · have hov' : ¬ (65536 : Int) < (l.length : Int) + (s.size : Int) := by omega
    cases ov
    · have CW := Lib.hid (ws_any s hW (by omega))
      have hE := Lib.hid (show addT (if false then none else some l) s.data.toList = some (l ++ s.data.toList) by
        show (if _ then _ else _) = _
        rw [if_neg (by rw [hsl.out]; exact hov)])
      have hL := Lib.hid (show (l ++ s.data.toList).length ≤ 65536 by rw [List.length_append, hsl.out]; omega)
      clear hW hov
      go_enter Tryz.func58, Tryz.ntmps58
      go_wp2_with (first | (go_at_call 88; (with_reducible refine Calls.mono CL.out ?_); rintro e _ ⟨rfl, rfl⟩) | (go_at_call 89; (with_reducible refine Calls.mono CW.out ?_); rintro e W2 ⟨rfl, hW2, hF2⟩))
      go_end0
      refine ⟨rfl, ⟨_, false, hW2, hL.out, ?_⟩, hF2⟩
      exact hE.out
    · clear hov
      go_enter Tryz.func58, Tryz.ntmps58
      go_wp2_with (go_at_call 88; (with_reducible refine Calls.mono CL.out ?_); rintro e _ ⟨rfl, rfl⟩)
      go_end0
      exact ⟨rfl, ⟨l, true, hW, hl, rfl⟩, FrB.refl _ _⟩
end Go.Proofs.YtdkgbdecmgligaaGreatDoor

/- The program's writer: words, each with a blank ahead. -/
namespace Go.Proofs.YtdkgbdecmgligaaGreatDoor
open Go.RowKit
set_option linter.unusedVariables false
set_option linter.unusedSimpArgs false
set_option linter.unnecessarySimpa false
theorem FrB.blk {base : Nat} {W W1 : World} (h : FrB base W W1) {b : Nat} {T : TypeId} {cs : Array Value} (hb : Blk W b T cs) (h1 : T ≠ 5) (h2 : T ≠ 61) : Blk W1 b T cs := (h.2 b cs T hb h1 h2).trans hb
/-- A row of words that lies in one block. -/
def SFB (W : World) (A : Option Addr) (ws : List Wd) : Prop := 0 < ws.length → ∃ b off cs, A = some ⟨b, off, none⟩ ∧ Blk W b 9 cs ∧ ∀ i (h : i < ws.length), cs[off + i]? = some (.string ⟨ws[i].toArray⟩)
theorem SFB.frb {base : Nat} {W W1 : World} {A : Option Addr} {ws : List Wd} (h : SFB W A ws) (hf : FrB base W W1) : SFB W1 A ws := fun h0 => by
  obtain ⟨b, off, cs, e, hb, hc⟩ := h h0
  exact ⟨b, off, cs, e, hf.blk hb (by decide) (by decide), hc⟩
theorem jn_take {ws : List Wd} {k : Nat} (h : k < ws.length) : jn (ws.take (k + 1)) = jn (ws.take k) ++ ([32] ++ ws[k]) := by
  rw [List.take_succ_eq_append_getElem h, jn_app]
  unfold jn; simp
theorem WX.nil {base g : Nat} {W : World} {st : Option (List UInt8)} (h : WX base g W st) : addT st [] = st := by
  obtain ⟨l, ov, _, hl, rfl⟩ := h
  refine addT_nil fun l' e => ?_
  cases ov
  · cases e; exact hl
  · cases e
set_option maxHeartbeats 1000000 in
set_option maxRecDepth 100000 in
theorem words_any {base g n c : Nat} {A : Option Addr} {W : World} {st : Option (List UInt8)} (ws : List Wd) (hn : ws.length = n) (hw : ∀ w ∈ ws, w.length ≤ 1000000) (hm : n ≤ 1000000) (hA : SFB W A ws) (h : WX base g W st) :
    Calls Tryz.prog 60 #[.pointer (some ⟨g, 0, none⟩), .slice A n c] W fun e W' => e = .returned (.tuple #[]) ∧ WX base g W' (addT st (jn ws)) ∧ FrB base W W' := by
  go_enter Tryz.func60, Tryz.ntmps60
  go_wp2_with fail
  go_loopw [8] (fun i wr => ∃ (k : Nat), i = .int .i64 (k : Int) ∧ k ≤ n ∧ Hid (WX base g wr (addT st (jn (ws.take k)))) ∧ Hid (FrB base W wr)) (fun i _ => n - (intOf i).toNat)
  case atStart => exact ⟨0, rfl, by omega, Lib.hid (by have e : addT st (jn (ws.take 0)) = st := h.nil; rw [e]; exact h), Lib.hid (FrB.refl _ _)⟩
  case round =>
    obtain ⟨k, rfl, hk, hX, hF⟩ := hrel
    by_cases hlt : k < n
    · have hlw : k < ws.length := by omega
      obtain ⟨b, off, cs, rfl, hb, hc⟩ := (hA.frb hF.out) (by omega)
      have d0 : wr.cell? ⟨b, off + k, none⟩ = some (.string ⟨ws[k].toArray⟩) := (hb.cell (off + k)).trans (hc k hlw)
      have k0 : (0 : Int) ≤ (k : Int) := by omega
      have k1 : (k : Int) < (n : Int) := by omega
      have hbl := hb.lt
      have C1 := Lib.hid (put_any (⟨#[32]⟩ : ByteArray) (by decide) hX.out)
      have C2 := Lib.hid (fun (W1 : World) (h1 : WX base g W1 (addT (addT st (jn (ws.take k))) [32])) => put_any (⟨ws[k].toArray⟩ : ByteArray) (by show ws[k].toArray.size ≤ _; have := hw ws[k] (List.getElem_mem hlw); simpa using this) h1)
      have HE := Lib.hid (show addT (addT (addT st (jn (ws.take k))) [32]) ws[k] = addT st (jn (ws.take (k + 1))) by rw [addT_assoc, addT_assoc, jn_take hlw])
      clear hc hb hA hX
      generalize ws[k] = wk at *
      go_wp2_with (go_at_call 58; first | ((with_reducible refine Calls.mono C1.out ?_); rintro e W1 ⟨rfl, hX1, hF1⟩) | ((with_reducible refine Calls.mono (C2.out _ hX1) ?_); rintro e W2 ⟨rfl, hX2, hF2⟩))
      go_roundw
      case rel => exact ⟨k + 1, by go_num, by omega, Lib.hid (by rw [← HE.out]; exact hX2), Lib.hid (hF.out.trans (hF1.trans hF2))⟩
      case measure => simp [intOf] <;> omega
    · obtain rfl : k = n := by omega
      have e : ws.take k = ws := List.take_of_length_le (by omega)
      rw [e] at hX
      go_wp2_with fail
      go_end0
      exact ⟨rfl, hX.out, hF.out⟩
end Go.Proofs.YtdkgbdecmgligaaGreatDoor
