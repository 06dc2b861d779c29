/- A text's lines, byte by byte. No program is imported. -/
namespace Go.Proofs.YtdkgbdecmgligaaGreatDoor
set_option linter.unusedVariables false
set_option linter.unusedSimpArgs false
/-- Where the reading stands: the line's number, its words so far, the word so far, whether in a remark, the lines so far. -/
structure LSt where
  no : Nat
  words : List (List Nat)
  word : List Nat
  remark : Bool
  out : List (Nat × List (List Nat))
def badC (c : Nat) : Bool := !decide (c = 10) && (decide (c < 32) || decide (126 < c))
def endW (s : LSt) : List (List Nat) := if s.word = [] then s.words else s.words ++ [s.word]
/-- One byte, if it is one that a text may have. -/
def step1 (s : LSt) (c : Nat) : LSt :=
  if c = 10 then ⟨s.no + 1, [], [], false, if endW s = [] then s.out else s.out ++ [(s.no, endW s)]⟩
  else if c = 32 ∨ c = 35 ∨ s.remark = true then ⟨s.no, endW s, [], s.remark || decide (c = 35), s.out⟩
  else ⟨s.no, s.words, s.word ++ [c], s.remark, s.out⟩
/-- The line of the first byte that a text may not have; or the state behind all. -/
def runL (s : LSt) : List Nat → Except Nat LSt
  | [] => .ok s
  | c :: l => if badC c then .error s.no else runL (step1 s c) l
def st0 : LSt := ⟨1, [], [], false, []⟩
theorem runL_app : ∀ (l m : List Nat) (s : LSt), runL s (l ++ m) = (match runL s l with | .error n => .error n | .ok t => runL t m)
  | [], m, s => rfl
  | c :: l, m, s => by
    simp only [List.cons_append, runL]
    split
    · rfl
    · exact runL_app l m _
/-- The same, some lines later and with other lines ahead. -/
def later (k : Nat) (A : List (Nat × List (List Nat))) (s : LSt) : LSt := ⟨s.no + k, s.words, s.word, s.remark, A ++ s.out.map fun q => (q.1 + k, q.2)⟩
theorem endW_later (k : Nat) (A : List (Nat × List (List Nat))) (s : LSt) : endW (later k A s) = endW s := rfl
theorem step1_later (k : Nat) (A : List (Nat × List (List Nat))) (s : LSt) (c : Nat) : step1 (later k A s) c = later k A (step1 s c) := by
  unfold step1
  rw [endW_later]
  split
  · unfold later
    simp only [LSt.mk.injEq, and_true, true_and]
    refine ⟨by omega, ?_⟩
    split
    · rfl
    · simp
  · show (if c = 32 ∨ c = 35 ∨ s.remark = true then _ else _) = _
    split
    · rfl
    · rfl
theorem runL_later (k : Nat) (A : List (Nat × List (List Nat))) : ∀ (l : List Nat) (s : LSt), runL (later k A s) l = (match runL s l with | .error n => .error (n + k) | .ok t => .ok (later k A t))
  | [], s => rfl
  | c :: l, s => by
    simp only [runL]
    split
    · rfl
    · rw [step1_later]; exact runL_later k A l _
/-- How many lines a text ends. -/
def ends (l : List Nat) : Nat := (l.filter fun c => decide (c = 10)).length
theorem runL_no : ∀ (l : List Nat) (s t : LSt), runL s l = .ok t → t.no = s.no + ends l
  | [], s, t, h => by simp only [runL, Except.ok.injEq] at h; subst h; rfl
  | c :: l, s, t, h => by
    simp only [runL] at h
    split at h
    · cases h
    · have := runL_no l _ t h
      rw [this]
      unfold step1 ends
      by_cases q : c = 10
      · simp [q]; omega
      · rw [if_neg q]
        split <;> simp [q]
/-- Behind a line's end all begins anew. -/
theorem step1_end (s : LSt) : step1 s 10 = later s.no ((step1 s 10).out) ⟨1, [], [], false, []⟩ := by
  unfold step1 later
  simp
  omega
/-- Two texts one behind the other, a line's end between. -/
theorem runL_behind (s t : List Nat) : runL st0 (s ++ [10] ++ t ++ [10]) = (match runL st0 (s ++ [10]) with
    | .error n => .error n
    | .ok a => (match runL st0 (t ++ [10]) with | .error n => .error (n + (ends s + 1)) | .ok b => .ok (later (ends s + 1) a.out b))) := by
  rw [List.append_assoc (s ++ [10]), runL_app (s ++ [10])]
  cases h : runL st0 (s ++ [10]) with
  | error n => rfl
  | ok a =>
    rw [runL_app] at h
    cases h1 : runL st0 s with
    | error n => rw [h1] at h; cases h
    | ok m =>
      rw [h1] at h
      have hb : badC 10 = false := rfl
      simp only [runL, hb, Except.ok.injEq] at h
      have hn := runL_no s st0 m h1
      have e : a = later m.no a.out ⟨1, [], [], false, []⟩ := by
        have := step1_end m
        simp only [Bool.false_eq_true, if_false] at h
        injection h with h
        rw [h] at this
        exact this
      have hm : m.no = ends s + 1 := by rw [hn]; show 1 + ends s = _; omega
      simp only
      rw [e, runL_later, hm]
      show (match runL st0 (t ++ [10]) with | .error n => _ | .ok t => _) = _
      cases runL st0 (t ++ [10]) with
      | error n => rfl
      | ok b =>
        simp only
        congr 1
        unfold later
        simp
theorem step1_remark {s : LSt} (hr : s.remark = true) (hw : s.word = []) {c : Nat} (hc : 32 ≤ c) : step1 s c = s := by
  unfold step1
  rw [if_neg (by omega), if_pos (.inr (.inr hr))]
  obtain ⟨a, b, d, e, f⟩ := s
  simp only at hr hw
  subst hr hw
  rfl
theorem runL_remark : ∀ (r : List Nat) (s : LSt), s.remark = true → s.word = [] → (∀ c ∈ r, 32 ≤ c ∧ c ≤ 126) → runL s r = .ok s
  | [], s, _, _, _ => rfl
  | c :: r, s, h1, h2, h3 => by
    have hc := h3 c (by simp)
    have hb : badC c = false := by unfold badC; simp; omega
    simp only [runL, hb, Bool.false_eq_true, if_false]
    rw [step1_remark h1 h2 hc.1]
    exact runL_remark r s h1 h2 fun q hq => h3 q (by simp [hq])
/-- Blanks and a remark behind a text change nothing. -/
theorem runL_blanks (s r : List Nat) (hr : ∀ c ∈ r, 32 ≤ c ∧ c ≤ 126) : runL st0 (s ++ ([32, 32, 35] ++ r ++ [10])) = runL st0 (s ++ [10]) := by
  rw [runL_app, runL_app]
  cases runL st0 s with
  | error n => rfl
  | ok m =>
    simp only
    have e : ∃ u : LSt, u.remark = true ∧ u.word = [] ∧ runL m [32, 32, 35] = .ok u ∧ u.no = m.no ∧ u.words = endW m ∧ u.out = m.out := by
      refine ⟨⟨m.no, endW m, [], true, m.out⟩, rfl, rfl, ?_, rfl, rfl, rfl⟩
      have b1 : badC 32 = false := rfl
      have b2 : badC 35 = false := rfl
      simp only [runL, b1, b2, Bool.false_eq_true, if_false]
      unfold step1
      simp [endW]
    obtain ⟨u, h1, h2, h3, h4, h5, h6⟩ := e
    rw [List.append_assoc, runL_app, h3]
    simp only
    rw [runL_app, runL_remark r u h1 h2 hr]
    simp only
    have b : badC 10 = false := rfl
    simp only [runL, b, Bool.false_eq_true, if_false]
    congr 1
    have eu : endW u = endW m := by
      show (if u.word = [] then u.words else _) = _
      rw [if_pos h2, h5]
    unfold step1
    rw [if_pos rfl, if_pos rfl, eu, h4, h6]
end Go.Proofs.YtdkgbdecmgligaaGreatDoor
