/- Two texts one behind the other (math and rows, for LexBehind). -/
import Derived.Test.YtdkgbdecmgligaaGreatDoorLexS
import Derived.Test.YtdkgbdecmgligaaGreatDoorLexR1
import Derived.Laws.AppendOwnNone
namespace Go.Proofs.YtdkgbdecmgligaaGreatDoor
open Go.RowKit
set_option linter.unusedVariables false
set_option linter.unusedSimpArgs false
theorem lines_err (w : World) (s : ByteArray) (hs : s.size ≤ 65536) (ht : Tabs w) {n : Nat} (he : linesP 1 [] (spl s.data.toList) = .error n) : Calls Tryz.prog 19 #[.string s] w fun e w' => e = .returned (.tuple #[.slice none 0 0, .int .i64 (n : Int), .int .i64 10]) ∧ Below w.heap.size w w' := by
  refine (lLines_any w s hs ht).mono ?_
  rintro e w' ⟨hb, hp⟩
  rw [he] at hp
  exact ⟨hp, hb⟩
theorem lines_ok (w : World) (s : ByteArray) (hs : s.size ≤ 65536) (ht : Tabs w) {o : List (Nat × List (List Nat))} (he : linesP 1 [] (spl s.data.toList) = .ok o) : Calls Tryz.prog 19 #[.string s] w fun e w' => ∃ v ls, e = .returned (.tuple #[v, .int .i64 0, .int .i64 0]) ∧ Below w.heap.size w w' ∧ LNS w' w.heap.size v ls ∧ outOf ls = o := by
  refine (lLines_any w s hs ht).mono ?_
  rintro e w' ⟨hb, hp⟩
  rw [he] at hp
  obtain ⟨v, ls, h1, h2, h3⟩ := hp
  exact ⟨v, ls, h1, hb, h2, h3⟩
theorem nb_cat10 (s t : ByteArray) : nb ((s ++ (⟨#[10]⟩ : ByteArray) ++ t).data.toList) ++ [10] = nb s.data.toList ++ [10] ++ nb t.data.toList ++ [10] := by
  have h : (s ++ (⟨#[10]⟩ : ByteArray) ++ t).data.toList = s.data.toList ++ [10] ++ t.data.toList := by simp
  rw [h, nb_app, nb_app]
  have e : nb [10] = [10] := rfl
  rw [e]
def bumpO (k : Nat) (o : List (Nat × List (List Nat))) : List (Nat × List (List Nat)) := o.map fun q => (q.1 + k, q.2)
theorem behind_run (s t : ByteArray) :
    (∃ n, linesP 1 [] (spl s.data.toList) = .error n ∧ linesP 1 [] (spl (s ++ (⟨#[10]⟩ : ByteArray) ++ t).data.toList) = .error n ∧ ((∃ m, linesP 1 [] (spl t.data.toList) = .error m) ∨ ∃ o, linesP 1 [] (spl t.data.toList) = .ok o)) ∨
    ∃ a, linesP 1 [] (spl s.data.toList) = .ok a ∧ ((∃ m, linesP 1 [] (spl t.data.toList) = .error m ∧ linesP 1 [] (spl (s ++ (⟨#[10]⟩ : ByteArray) ++ t).data.toList) = .error (m + (ends (nb s.data.toList) + 1))) ∨
      ∃ b, linesP 1 [] (spl t.data.toList) = .ok b ∧ linesP 1 [] (spl (s ++ (⟨#[10]⟩ : ByteArray) ++ t).data.toList) = .ok (a ++ bumpO (ends (nb s.data.toList) + 1) b)) := by
  have k := runL_behind (nb s.data.toList) (nb t.data.toList)
  rw [← nb_cat10] at k
  rcases lines_run s.data.toList with ⟨n, e1, e2⟩ | ⟨a, e1, e2⟩
  · left
    rw [e2] at k
    simp only at k
    refine ⟨n, e1, ?_, ?_⟩
    · rcases lines_run (s ++ (⟨#[10]⟩ : ByteArray) ++ t).data.toList with ⟨m, f1, f2⟩ | ⟨u, f1, f2⟩
      · rw [f2] at k; injection k with k; rw [f1, k]
      · rw [f2] at k; cases k
    · rcases lines_run t.data.toList with ⟨m, f1, f2⟩ | ⟨u, f1, f2⟩
      · exact .inl ⟨m, f1⟩
      · exact .inr ⟨_, f1⟩
  · right
    rw [e2] at k
    simp only at k
    refine ⟨_, e1, ?_⟩
    rcases lines_run t.data.toList with ⟨m, g1, g2⟩ | ⟨b, g1, g2⟩
    · left
      rw [g2] at k
      simp only at k
      refine ⟨m, g1, ?_⟩
      rcases lines_run (s ++ (⟨#[10]⟩ : ByteArray) ++ t).data.toList with ⟨m, f1, f2⟩ | ⟨u, f1, f2⟩
      · rw [f2] at k; injection k with k; rw [f1, k]
      · rw [f2] at k; cases k
    · right
      rw [g2] at k
      simp only at k
      refine ⟨_, g1, ?_⟩
      rcases lines_run (s ++ (⟨#[10]⟩ : ByteArray) ++ t).data.toList with ⟨m, f1, f2⟩ | ⟨u, f1, f2⟩
      · rw [f2] at k; cases k
      · rw [f2] at k; injection k with k; rw [f1, k]; rfl
theorem linesP_no : ∀ (P : List (List UInt8)) (n M : Nat) (O o : List (Nat × List (List Nat))), linesP n O P = .ok o → (∀ q ∈ O, q.1 ≤ M) → n + P.length ≤ M + 1 → ∀ q ∈ o, q.1 ≤ M
  | [], n, M, O, o, h, hO, _ => by unfold linesP at h; injection h with h; subst h; exact hO
  | p :: P, n, M, O, o, h, hO, hn => by
    rw [linesP_cons] at h
    simp only [List.length_cons] at hn
    split at h
    · refine linesP_no P (n + 1) M _ o h (fun q hq => ?_) (by omega)
      unfold lineO at hq
      split at hq
      · exact hO q hq
      · rcases List.mem_append.1 hq with hq | hq
        · exact hO q hq
        · rw [List.mem_singleton] at hq
          subst hq
          simp only
          omega
    · cases h
theorem ends_snoc (l : List Nat) (c : Nat) : ends (l ++ [c]) = ends l + if c = 10 then 1 else 0 := by
  unfold ends
  rw [List.filter_append, List.length_append]
  by_cases h : c = 10 <;> simp [h]
theorem ends_step (s : ByteArray) (k : Nat) (h : k < s.size) : ends ((nb s.data.toList).take (k + 1)) = ends ((nb s.data.toList).take k) + if bt s k = 10 then 1 else 0 := by
  have hl : k < (nb s.data.toList).length := by unfold nb; simpa using h
  rw [List.take_succ_eq_append_getElem hl, ends_snoc]
  have e : (nb s.data.toList)[k] = bt s k := T_bt s k (by rw [T_len]; exact h)
  rw [e]
theorem ends_le (l : List Nat) : ends l ≤ l.length := by unfold ends; exact List.length_filter_le _ _
/-- The first k lines' numbers are greater by so much. -/
def bump (d : Nat) : Nat → List Ln → List Ln
  | 0, ls => ls
  | k + 1, [] => []
  | k + 1, q :: ls => ⟨q.no + d, q.at_, q.words⟩ :: bump d k ls
theorem bump_len (d : Nat) : ∀ k ls, (bump d k ls).length = ls.length
  | 0, ls => rfl
  | k + 1, [] => rfl
  | k + 1, q :: ls => by simp [bump, bump_len d k ls]
theorem bump_out (d : Nat) : ∀ k ls, ls.length ≤ k → outOf (bump d k ls) = bumpO d (outOf ls)
  | 0, [], _ => rfl
  | 0, q :: ls, h => by simp at h
  | k + 1, [], _ => rfl
  | k + 1, q :: ls, h => by
    have := bump_out d k ls (by simpa using h)
    unfold outOf bumpO at *
    simp only [bump, List.map_cons, this]
theorem bump_set (d : Nat) : ∀ k ls (h : k < ls.length), (lnC (bump d k ls)).set (k * 2) (.int .i64 (((ls[k]).no + d : Nat) : Int)) = lnC (bump d (k + 1) ls)
  | k, [], h => by simp at h
  | 0, q :: ls, _ => by simp [bump, lnC]
  | k + 1, q :: ls, h => by
    have e := bump_set d k ls (by simpa using h)
    unfold lnC at *
    simp only [bump, List.flatMap_cons, List.getElem_cons_succ]
    rw [show (k + 1) * 2 = k * 2 + 1 + 1 by omega]
    simp only [List.cons_append, List.nil_append, List.set_cons_succ]
    rw [e]
theorem bump_get (d : Nat) : ∀ k ls (h : k < ls.length), (lnC (bump d k ls))[k * 2]? = some (.int .i64 ((ls[k]).no : Int))
  | k, [], h => by simp at h
  | 0, q :: ls, _ => by simp [bump, lnC]
  | k + 1, q :: ls, h => by
    have e := bump_get d k ls (by simpa using h)
    unfold lnC at *
    simp only [bump, List.flatMap_cons, List.getElem_cons_succ]
    rw [show (k + 1) * 2 = k * 2 + 1 + 1 by omega]
    simp only [List.cons_append, List.nil_append, List.getElem?_cons_succ]
    exact e
theorem bump_mem (d : Nat) : ∀ k ls q, q ∈ bump d k ls → ∃ p ∈ ls, q.at_ = p.at_ ∧ q.words = p.words ∧ (q.no = p.no ∨ q.no = p.no + d)
  | 0, ls, q, h => ⟨q, h, rfl, rfl, .inl rfl⟩
  | k + 1, [], q, h => by simp [bump] at h
  | k + 1, p :: ls, q, h => by
    simp only [bump, List.mem_cons] at h
    rcases h with rfl | h
    · exact ⟨p, by simp, rfl, rfl, .inr rfl⟩
    · obtain ⟨p2, h2, k2⟩ := bump_mem d k ls q h
      exact ⟨p2, by simp [h2], k2⟩
theorem all_words (d : Nat) : ∀ k ls p, p ∈ ls → ∃ q', q' ∈ bump d k ls ∧ q'.at_ = p.at_ ∧ q'.words = p.words
  | 0, ls, p, h => ⟨p, h, rfl, rfl⟩
  | k + 1, [], p, h => by cases h
  | k + 1, x :: xs, p, h => by
    rcases List.mem_cons.1 h with rfl | h
    · exact ⟨⟨p.no + d, p.at_, p.words⟩, by simp [bump], rfl, rfl⟩
    · obtain ⟨q', a, b⟩ := all_words d k xs p h
      exact ⟨q', by simp [bump, a], b⟩
/-- A row of lines above a base is kept by what turns a row below it. -/
theorem LNS.high {w w' : World} {base : Nat} {v : Value} {ls : List Ln} {row : Option Nat} (h : LNS w base v ls) (hg : w.grownBy w' row) (hr : ∀ k, row = some k → k < base) : LNS w' base v ls := by
  have ne : ∀ {u : Value} {e : TypeId} {sz n : Nat} {xs : List Value}, w.ownsRow base e sz u n xs → w'.ownsRow base e sz u n xs := fun {u e sz n xs} ho => by
    refine ho.kept hg ?_
    cases hu : u.ownBlock with
    | none => exact .inl rfl
    | some b =>
      right
      intro e2
      have l1 := hr b e2.symm
      have l2 := (ho.lt b hu).1
      omega
  exact ⟨ne h.1, fun q hq => by
    obtain ⟨q1, q2, q3, q4⟩ := h.2 q hq
    exact ⟨q1, q2, q3, ne q4⟩⟩
/-- One line's number made greater where it lies. -/
theorem LNS.bumped {w : World} {base g c n : Nat} {ls : List Ln} {d k : Nat} (hn : n = ls.length) (h : LNS w base (.slice (some ⟨g, 0, none⟩) n c) (bump d k ls)) (hk : k < ls.length) :
    LNS (w.setCell ⟨g, k * 2, none⟩ (.int .i64 (((ls[k]).no + d : Nat) : Int))) base (.slice (some ⟨g, 0, none⟩) n c) (bump d (k + 1) ls) ∧ w.grownBy (w.setCell ⟨g, k * 2, none⟩ (.int .i64 (((ls[k]).no + d : Nat) : Int))) (some g) := by
  have h1 := h.1
  rw [bump_len, ← hn] at h1
  obtain ⟨s1, s2⟩ := h1.stored (k * 2) (.int .i64 (((ls[k]).no + d : Nat) : Int))
  rw [bump_set d k ls hk] at s1
  refine ⟨⟨by rw [bump_len, ← hn]; exact s1, fun q hq => ?_⟩, s2⟩
  obtain ⟨p, hp, e1, e2, e3⟩ := bump_mem d (k + 1) ls q hq
  have hwords := all_words d k ls p hp
  obtain ⟨q', hq', f1, f2⟩ := hwords
  obtain ⟨q1, q2, q3, q4⟩ := h.2 q' hq'
  rw [f1, f2] at q4
  rw [f2] at q1 q2
  refine ⟨by rw [e2]; exact q1, by rw [e2]; exact q2, trivial, ?_⟩
  · rw [e1, e2]
    exact q4.kept s2 (own_ne q4 h1 line_ne_str)
theorem lnC_one {W : World} {base : Nat} : ∀ (ls : List Ln), (∀ q ∈ ls, WS W base q) → ∀ u ∈ lnC ls, u.oneCell' = true
  | [], _, u, hu => by cases hu
  | q :: ls, h, u, hu => by
    unfold lnC at hu
    simp only [List.flatMap_cons, List.mem_append, List.mem_cons, List.not_mem_nil, or_false] at hu
    rcases hu with (rfl | rfl) | hu
    · rfl
    · obtain ⟨q1, _, _, q4⟩ := h q (by simp)
      obtain ⟨gw, cw, hqa, _, _⟩ := World.ownsRow.form q4 q1
      rw [hqa]; rfl
    · exact lnC_one ls (fun p hp => h p (by simp [hp])) u hu
theorem linesP_err : ∀ (P : List (List UInt8)) (n k : Nat) (O : List (Nat × List (List Nat))), linesP n O P = .error k → k ≤ n + P.length
  | [], n, k, O, h => by unfold linesP at h; cases h
  | p :: P, n, k, O, h => by
    rw [linesP_cons] at h
    split at h
    · have := linesP_err P _ _ _ h
      simp; omega
    · injection h with h; subst h; omega
theorem bel_set0 {B : Nat} {a w : World} (h : Below B a w) {p : Addr} (hp : B ≤ p.block) (u : Value) : Below B a (w.setCell p u) :=
  h.setCell hp u
/-- A guarded operation whose guard is met. -/
theorem wpList_guarded {P : Program} {w : World} {ops : Array Oper} {rest : List Oper} {o : Oper} {a : Act} {Q : Exit → Act → World → Prop} (hw : Region.wanted o (yielded ops a.tmps) = true)
    (h : ∀ K : Act → World → Prop, (∀ a w, wpList P ops Q rest a w → K a w) → o.wp P a w K Q) : wpList P ops Q (o :: rest) a w :=
  wpList_step fun K hK => by rw [if_pos hw]; exact h K hK
/-- Nothing is appended. -/
theorem wp_append_nothing {P : Program} {w : World} {o : Oper} {a : Act} {K : Act → World → Prop} {Q : Exit → Act → World → Prop} (s x : Operand) (t : TypeId)
    (ho : o.op = .call { callee := .builtin .append, args := #[s, x], argTypes := #[t, t] }) (base : Nat) (e : TypeId) (i : TypeInfo) (size : Nat) (ht : P.underlying t = some (.slice e)) (hi : P.info? e = some i)
    (v : Value) (n : Nat) (xs : List Value) (hs : a.eval s = v) (hown : w.ownsRow base e size v n xs) (hx : a.eval x = .slice none 0 0) (h : K (a.put o.dst v) w) : o.wp P a w K Q := by
  have r := run_append_owned_none (P := P) (w := w) base t o.type e i size ht hi v n xs hown
  unfold Oper.wp
  simp [execOp, ho, resolve, invoke, builtin, hs, hx, r, Result.andThen]
  exact h
end Go.Proofs.YtdkgbdecmgligaaGreatDoor
