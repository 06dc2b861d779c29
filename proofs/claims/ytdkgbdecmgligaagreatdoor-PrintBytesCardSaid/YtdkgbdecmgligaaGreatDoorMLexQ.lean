/- What the library's tables hold; strings.Clone; the program's own split. -/
import Derived.Test.YtdkgbdecmgligaaGreatDoorLexP3
import Derived.Test.YtdkgbdecmgligaaGreatDoorLexM2
import Derived.Test.YtdkgbdecmgligaaGreatDoorMLexC
import Derived.Laws.OwnMore
import Derived.OwnWalk
import Derived.Maps.AppendAt
namespace Go.Proofs.YtdkgbdecmgligaaGreatDoor
open Go.RowKit
set_option linter.unusedVariables false
set_option linter.unusedSimpArgs false
theorem gTab : Tryz.prog.globalNamed "strings.asciiSpace" = some 0 := by kernel_rfl
/-- internal/bytealg.MaxLen holds an int; strings.asciiSpace holds the library's table. -/
def Tabs (w : World) : Prop := 2 < w.heap.size ∧ 0 < w.heap.size ∧ (∃ m, w.cell? ⟨2, 0, none⟩ = some (.int .i64 m)) ∧ Lib.TabIs Tryz.prog w "strings.asciiSpace" .u8 Lib.asciiSpaceTab
theorem Tabs.below {w w' : World} (h : Tabs w) (hb : Below w.heap.size w w') : Tabs w' := by
  obtain ⟨h1, h2, ⟨m, h3⟩, h4⟩ := h
  refine ⟨Nat.lt_of_lt_of_le h1 hb.size, Nat.lt_of_lt_of_le h2 hb.size, ⟨m, (hb.cell (p := ⟨2, 0, none⟩) h1).trans h3⟩, ?_⟩
  unfold Lib.TabIs World.var? at *
  rw [gTab] at *
  simp only [Option.bind_some, Option.bind_eq_bind] at *
  rw [hb.block _ h2]
  exact h4
theorem clone_any (s : ByteArray) (hs : s.size ≤ 1048576) : Gives Tryz.prog 78 #[.string s] (.string s) := by
  refine Gives.mk fun w => ?_
  go_enter Tryz.func78, Tryz.ntmps78
  go_wp2_with (go_at_call 107; refine (Tryz.stringslite_Clone s _ (by omega)).mono ?_; rintro e w1 ⟨rfl, hb⟩)
  go_ret
  exact ⟨rfl, hb⟩
theorem own_grow {w : World} {base : Nat} {e : TypeId} {k : Nat} {v : Value} {n : Nat} {xs : List Value} (h : w.ownsRow base e k v n xs) (x : More) : (grow w x).ownsRow base e k v n xs :=
  h.kept (row := none) ⟨(x.kept w).os, (x.kept w).tape, (x.kept w).output, (x.kept w).size, fun j hj _ => (x.kept w).block j hj⟩ (by cases hv : v.ownBlock <;> simp)
theorem own_below {w w' : World} {base : Nat} {e : TypeId} {k : Nat} {v : Value} {n : Nat} {xs : List Value} (h : w.ownsRow base e k v n xs) (hb : Below w.heap.size w w') : w'.ownsRow base e k v n xs :=
  h.kept (row := none) ⟨hb.os, hb.tape, hb.output, hb.size, fun j hj _ => hb.block j hj⟩ (by cases hv : v.ownBlock <;> simp)
def strs (l : List (List UInt8)) : List Value := l.map fun x => .string ⟨x.toArray⟩
theorem strs_len (l : List (List UInt8)) : (strs l).length = l.length := by unfold strs; simp
theorem strs_get (l : List (List UInt8)) (k : Nat) (h : k < l.length) : (strs l)[k]? = some (.string ⟨(l[k]).toArray⟩) := by unfold strs; simp [h]
theorem fieldsGo_le : ∀ (l w : List UInt8), (∀ x ∈ Lib.fieldsGo w l, x.length ≤ w.length + l.length) ∧ (Lib.fieldsGo w l).length ≤ (if w = [] then 0 else 1) + l.length
  | [], w => by
    unfold Lib.fieldsGo
    cases w <;> simp
  | b :: l, w => by
    cases hb : Lib.isSp b
    · rw [Lib.fieldsGo_more w b l hb]
      obtain ⟨h1, h2⟩ := fieldsGo_le l (w ++ [b])
      refine ⟨fun x hx => by have := h1 x hx; simp at this ⊢; omega, ?_⟩
      rw [if_neg (by simp)] at h2
      simp only [List.length_cons]
      split <;> omega
    · obtain ⟨h1, h2⟩ := fieldsGo_le l []
      simp only [if_true] at h2
      cases w with
      | nil =>
        rw [Lib.fieldsGo_sp b l hb]
        refine ⟨fun x hx => by have := h1 x hx; simp at this ⊢; omega, ?_⟩
        simp; omega
      | cons a t =>
        rw [Lib.fieldsGo_end (a :: t) b l hb (by simp)]
        refine ⟨fun x hx => ?_, by simp; omega⟩
        rcases List.mem_cons.1 hx with rfl | hx
        · simp
        · have := h1 x hx; simp at this ⊢; omega
theorem fields_le (l : List UInt8) : ∀ x ∈ Lib.fields l, x.length ≤ l.length := fun x hx => by
  have := (fieldsGo_le l []).1 x hx
  simpa using this
theorem fields_len_le (l : List UInt8) : (Lib.fields l).length ≤ l.length := by
  have := (fieldsGo_le l []).2
  simp only [if_true] at this
  unfold Lib.fields
  omega
set_option maxHeartbeats 1000000 in
theorem split_any (w : World) (s : ByteArray) (hs : s.size ≤ 65536) (hp : plainL s.data.toList) (ht : Tabs w) :
    Calls Tryz.prog 54 #[.string s] w fun e w' => ∃ v, e = .returned v ∧ Below w.heap.size w w' ∧ w'.ownsRow w.heap.size 9 1 v (wordsOf s.data.toList).length (strs (wordsOf s.data.toList)) := by
  have ht0 := ht
  obtain ⟨g1, g2, ⟨m, hm⟩, htab⟩ := ht
  have htold : (Lib.cut s.data.toList [35]).1 = told s.data.toList := cut_told _
  obtain ⟨r, er, _⟩ := told_plus s.data.toList
  have cC : Calls Tryz.prog 76 #[.string s, .string ⟨#[35]⟩] w fun e w' => e = .returned (.tuple #[.string ⟨(told s.data.toList).toArray⟩, .string ⟨(Lib.cut s.data.toList [35]).2.1.toArray⟩, .bool (Lib.cut s.data.toList [35]).2.2]) ∧ Below w.heap.size w w' := by
    refine (Tryz.strings_Cut s ⟨#[35]⟩ m w (by omega) hm).mono ?_
    rintro e w' ⟨rfl, n, rfl⟩
    exact ⟨by rw [← htold], bel_drewN (Below.refl _ _) _⟩
  have htl : (told s.data.toList).length ≤ 65536 := by
    have := congrArg List.length er
    simp at this
    omega
  have cF : ∀ w1 : World, Below w.heap.size w w1 → Calls Tryz.prog 77 #[.string ⟨(told s.data.toList).toArray⟩] w1 fun e w' => e = .returned (.slice (some ⟨w1.heap.size, 0, none⟩) (wordsOf s.data.toList).length (wordsOf s.data.toList).length) ∧ w' = w1.alloc (.cells (strs (wordsOf s.data.toList)).toArray 9) := fun w1 hb => by
    have ht1 := ht0.below hb
    have k := Tryz.strings_Fields ⟨(told s.data.toList).toArray⟩ w1 (by simp [ByteArray.size]; omega) (fun j b hj => by
      have hm : b ∈ told s.data.toList := by simpa using List.mem_of_getElem? hj
      have := hp b (by rw [er]; simp [hm])
      omega) ht1.2.2.2
    simpa [wordsOf, strs] using k
  have hL : ∀ x ∈ wordsOf s.data.toList, x.length ≤ 65536 := fun x hx => Nat.le_trans (fields_le _ x hx) htl
  have hLn : (wordsOf s.data.toList).length ≤ 65536 := Nat.le_trans (fields_len_le _) htl
  generalize wordsOf s.data.toList = L at *
  generalize (Lib.cut s.data.toList [35]).2.1 = r2 at *
  generalize (Lib.cut s.data.toList [35]).2.2 = r3 at *
  generalize (⟨(told s.data.toList).toArray⟩ : ByteArray) = t at *
  clear htold er htl hp hm htab
  have hLs := Lib.hid hL
  clear hL
  go_enter Tryz.func54, Tryz.ntmps54
  go_wp2_with (first | (go_at_call 76; refine cC.mono ?_; rintro e w1 ⟨rfl, hb1⟩) | (go_at_call 77; refine (cF w1 hb1).mono ?_; rintro e w2 ⟨rfl, rfl⟩))
  have own : (w1.alloc (.cells (strs L).toArray 9)).ownsRow w.heap.size 9 1 (.slice (some ⟨w1.heap.size, 0, none⟩) L.length L.length) L.length (strs L) := by
    have k := World.ownsRow_lit (base := w.heap.size) (e := 9) (size := 1) w1 (strs L).toArray L.length hb1.size (by unfold maxLen; omega) (by simp [strs_len])
    simpa using k
  have hb2 : Below w.heap.size w (w1.alloc (.cells (strs L).toArray 9)) := bel_alloc hb1 _
  generalize w1.heap.size = g at *
  clear hb1 cF cC
  go_loopw [19] (fun i wr => ∃ k : Nat, i = .int .i64 k ∧ k ≤ L.length ∧ wr.ownsRow w.heap.size 9 1 (.slice (some ⟨g, 0, none⟩) L.length L.length) L.length (strs L) ∧ Below w.heap.size w wr) (fun i _ => L.length - (intOf i).toNat)
  case atStart => exact ⟨0, rfl, by omega, own, hb2⟩
  case round =>
    obtain ⟨k, rfl, hk, hown, hbw⟩ := hrel
    clear own hb2
    by_cases hlt : k < L.length
    · have hc := hown.cellAt k (by omega)
      rw [strs_get L k hlt] at hc
      have hf := hown.frozenAt k
      have hgl := hown.lt g rfl
      have h64 := hLs.out _ (List.getElem_mem hlt)
      have st := hown.stored k (.string ⟨(L[k]).toArray⟩)
      have est : (strs L).set k (.string ⟨(L[k]).toArray⟩) = strs L := by
        apply List.ext_getElem?
        intro j
        rw [List.getElem?_set]
        split
        · rename_i hj
          subst hj
          rw [if_pos (by rw [strs_len]; exact hlt), strs_get L k hlt]
        · rfl
      have CL := clone_any ⟨(L[k]).toArray⟩ (by simp [ByteArray.size]; omega)
      generalize L[k] = x at *
      rw [est] at st
      have KP := Lib.hid (And.intro st (And.intro hbw hgl))
      have hgl2 := hgl.2
      have k0 : (0 : Int) ≤ (k : Int) := by omega
      have k1 : (k : Int) < (L.length : Int) := by omega
      clear st est hown hbw
      go_wp2_with (go_at_call 78; refine (CL _).mono ?_; rintro e _ ⟨rfl, x3, rfl⟩)
      go_roundw
      case rel =>
        obtain ⟨⟨s1, s2⟩, s3, s4⟩ := KP.out
        refine ⟨k + 1, by go_num, by omega, own_grow s1 _, ?_⟩
        exact bel_grow (s3.trans ⟨s2.os, s2.tape, s2.output, s2.size, fun i hi => s2.block i (Nat.lt_of_lt_of_le hi s3.size) (fun e => by injection e with e; omega)⟩) _
      case measure => simp [intOf] <;> omega
    · obtain rfl : k = L.length := by omega
      go_wp2
      go_ret
      exact ⟨_, rfl, hbw, hown⟩
end Go.Proofs.YtdkgbdecmgligaaGreatDoor

/- Rows of lines that a call owns. -/
namespace Go.Proofs.YtdkgbdecmgligaaGreatDoor
open Go.RowKit
set_option linter.unusedVariables false
set_option linter.unusedSimpArgs false
theorem own_ne {W : World} {b1 b2 : Nat} {e1 e2 : TypeId} {s1 s2 : Nat} {v1 v2 : Value} {n1 n2 : Nat} {x1 x2 : List Value} (h1 : W.ownsRow b1 e1 s1 v1 n1 x1) (h2 : W.ownsRow b2 e2 s2 v2 n2 x2) (he : e1 ≠ e2) : v1.ownBlock = none ∨ v1.ownBlock ≠ v2.ownBlock := by
  rcases h1.2 with ⟨rfl, _⟩ | ⟨g, cap, cur, rfl, _, hg, _⟩
  · exact .inl rfl
  · right
    rcases h2.2 with ⟨rfl, _⟩ | ⟨g', cap', cur', rfl, _, hg', _⟩
    · simp [Value.ownBlock]
    · intro e
      simp only [Value.ownBlock, Option.some.injEq] at e
      subst e
      rw [hg] at hg'
      simp only [Option.some.injEq, Obj.cells.injEq] at hg'
      exact he hg'.2.1
theorem own_form {w : World} {base : Nat} {e : TypeId} {size : Nat} {v : Value} {n : Nat} {xs : List Value} (h : w.ownsRow base e size v n xs) : ∃ A c, v = .slice A n c := by
  rcases h.2 with ⟨h, h2⟩ | ⟨g, cap, cur, h, _⟩
  · exact ⟨none, 0, by rw [h, h2]⟩
  · exact ⟨_, cap, h⟩
/-- A line: its number, where its words lie, which. -/
structure Ln where
  no : Nat
  at_ : Value
  words : List (List UInt8)
def lnC (ls : List Ln) : List Value := ls.flatMap fun q => [.int .i64 (q.no : Int), q.at_]
theorem lnC_len : ∀ ls : List Ln, (lnC ls).length = ls.length * 2
  | [] => rfl
  | q :: ls => by
    have := lnC_len ls
    unfold lnC at *
    simp only [List.flatMap_cons, List.length_append, List.length_cons, List.length_nil, this]
    omega
theorem lnC_app (a b : List Ln) : lnC (a ++ b) = lnC a ++ lnC b := by unfold lnC; simp
def outOf (ls : List Ln) : List (Nat × List (List Nat)) := ls.map fun q => (q.no, q.words.map nb)
theorem outOf_app (a b : List Ln) : outOf (a ++ b) = outOf a ++ outOf b := by unfold outOf; simp
/-- A line's words lie in the world. -/
def WS (W : World) (base : Nat) (q : Ln) : Prop := 0 < q.words.length ∧ q.words.length ≤ 65537 ∧ True ∧ W.ownsRow base 9 1 q.at_ q.words.length (strs q.words)
/-- A row of lines that lies behind a base. -/
def LNS (W : World) (base : Nat) (v : Value) (ls : List Ln) : Prop := W.ownsRow base 73 2 v ls.length (lnC ls) ∧ ∀ q ∈ ls, WS W base q
theorem WS.below {W W' : World} {base : Nat} {q : Ln} (h : WS W base q) (hb : Below W.heap.size W W') : WS W' base q := ⟨h.1, h.2.1, h.2.2.1, own_below h.2.2.2 hb⟩
theorem own_mono {w : World} {base base' : Nat} {e : TypeId} {size : Nat} {v : Value} {n : Nat} {xs : List Value} (h : w.ownsRow base e size v n xs) (hb : base' ≤ base) : w.ownsRow base' e size v n xs := by
  refine ⟨h.1, ?_⟩
  rcases h.2 with h | ⟨g, cap, cur, h1, h2, h3⟩
  · exact .inl h
  · exact .inr ⟨g, cap, cur, h1, Nat.le_trans hb h2, h3⟩
theorem WS.mono {W : World} {base base' : Nat} {q : Ln} (h : WS W base q) (hb : base' ≤ base) : WS W base' q := ⟨h.1, h.2.1, h.2.2.1, own_mono h.2.2.2 hb⟩
theorem LNS.below {W W' : World} {base : Nat} {v : Value} {ls : List Ln} (h : LNS W base v ls) (hb : Below W.heap.size W W') : LNS W' base v ls := ⟨own_below h.1 hb, fun q hq => (h.2 q hq).below hb⟩
theorem LNS.mono {W : World} {base base' : Nat} {v : Value} {ls : List Ln} (h : LNS W base v ls) (hb : base' ≤ base) : LNS W base' v ls := ⟨own_mono h.1 hb, fun q hq => (h.2 q hq).mono hb⟩
theorem LNS_nil (W : World) (base : Nat) : LNS W base (.slice none 0 0) [] := ⟨World.ownsRow_nil _ _ _ _, fun q hq => by cases hq⟩
theorem line_ne_str : (9 : TypeId) ≠ 73 := by decide
/-- What is appended to a row of lines leaves the words where they lie. -/
theorem LNS.grown {w w' : World} {base : Nat} {v v' : Value} {ls ls' : List Ln} (h : LNS w base v ls) (hq : ∀ q ∈ ls', WS w base q) (hg : w.grownBy w' v.ownBlock)
    (hown : w'.ownsRow base 73 2 v' (ls ++ ls').length (lnC (ls ++ ls'))) : LNS w' base v' (ls ++ ls') := by
  refine ⟨hown, fun q hq' => ?_⟩
  have hw : WS w base q := by
    rcases List.mem_append.1 hq' with h1 | h1
    · exact h.2 q h1
    · exact hq q h1
  exact ⟨hw.1, hw.2.1, hw.2.2.1, hw.2.2.2.kept hg (own_ne hw.2.2.2 h.1 line_ne_str)⟩
theorem add_lit0 (b off k : Nat) : (⟨b, off, none⟩ : Addr).add k = ⟨b, off + k, none⟩ := by
  unfold Addr.add; split <;> simp_all
theorem cell_two_new (w : World) (x y : Value) (t : TypeId) : ∀ j u, [x, y][j]? = some u → (w.alloc (.cells #[x, y] t)).cell? ((⟨w.heap.size, 0, none⟩ : Addr).add j) = some u := by
  intro j u hj
  have hb := heap_alloc_new w (.cells #[x, y] t)
  match j, hj with
  | 0, hj =>
    simp at hj; subst hj
    rw [add_lit0, cell_of_row _ _ _ _ _ _ hb]; rfl
  | 1, hj =>
    simp at hj; subst hj
    rw [add_lit0, cell_of_row _ _ _ _ _ _ hb]; rfl
theorem infoLn : (Tryz.prog.info? 73).map (fun i => (i.zero, i.size, i.bytes)) = some (some (.agg #[.int .i64 0, .slice none 0 0]), 2, 32) := by kernel_rfl
theorem plain_dec (s : ByteArray) : allAt plAt s s.size = decide (plainL s.data.toList) := by
  rw [Bool.eq_iff_iff, allAt_iff, decide_eq_true_eq]
  constructor
  · intro h c hc
    obtain ⟨k, hk, rfl⟩ := List.getElem_of_mem hc
    have hk' : k < s.size := by simpa using hk
    have h1 := (plAt_iff _ _).1 (h k hk')
    have e := T_bt s k (by rw [T_len]; exact hk')
    unfold T at e
    rw [List.getElem_map] at e
    rw [e]; exact h1
  · intro h k hk
    have e := T_bt s k (by rw [T_len]; exact hk)
    unfold T at e
    rw [List.getElem_map] at e
    rw [plAt_iff, ← e]
    exact h _ (List.getElem_mem _)
theorem spl_le : ∀ l, ∀ p ∈ spl l, p.length ≤ l.length
  | [], p, hp => by
    simp only [spl, List.mem_singleton] at hp
    subst hp; exact Nat.le_refl _
  | b :: l, p, hp => by
    have ih := spl_le l
    unfold spl at hp
    by_cases h : b = 10
    · rw [if_pos h] at hp
      rcases List.mem_cons.1 hp with rfl | hp
      · simp
      · have := ih p hp; simp; omega
    · rw [if_neg h] at hp
      cases e : spl l with
      | nil => exact absurd e (spl_ne l)
      | cons a t =>
        rw [e] at hp ih
        rcases List.mem_cons.1 hp with rfl | hp
        · have := ih a (by simp); simp; omega
        · have := ih p (by simp [hp]); simp; omega
theorem spl_len : ∀ l, (spl l).length ≤ l.length + 1
  | [] => by simp [spl]
  | b :: l => by
    have ih := spl_len l
    unfold spl
    by_cases h : b = 10
    · rw [if_pos h]; simp; omega
    · rw [if_neg h]
      cases e : spl l with
      | nil => exact absurd e (spl_ne l)
      | cons a t => rw [e] at ih; simp at ih ⊢; omega
theorem strs_data (Bs : List ByteArray) : strs (Bs.map (·.data.toList)) = Bs.map Value.string := by unfold strs; simp
theorem split10 (s : ByteArray) : (Lib.splitB ⟨#[10]⟩ 0 (Lib.countB s ⟨#[10]⟩) s).map Value.string = strs (spl s.data.toList) ∧ Lib.countB s ⟨#[10]⟩ + 1 = (spl s.data.toList).length := by
  have e : (Lib.splitB ⟨#[10]⟩ 0 (Lib.countB s ⟨#[10]⟩) s).map (·.data.toList) = spl s.data.toList := by
    rw [Lib.splitB_data]
    exact splitK_spl _
  refine ⟨by rw [← e, strs_data], ?_⟩
  rw [← e, List.length_map]
  exact (Lib.splitB_all ⟨#[10]⟩ (by decide) 0 _ s rfl).symm
theorem words_of_plain (l : List UInt8) : (wordsOf l).length ≤ l.length := by
  obtain ⟨r, er, _⟩ := told_plus l
  have h := fields_len_le (told l)
  have h2 := congrArg List.length er
  rw [List.length_append] at h2
  unfold wordsOf
  omega
end Go.Proofs.YtdkgbdecmgligaaGreatDoor
