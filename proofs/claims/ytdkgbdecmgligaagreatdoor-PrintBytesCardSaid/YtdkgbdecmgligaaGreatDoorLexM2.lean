/- A text cut at its line ends, a line at its first remark, what is left at blanks: the same lines as byte by byte. No program is imported. -/
import Derived.Lib.Fields
import Derived.Lib.SplitLaws
import Derived.Lib.IndexBytes
import Derived.Test.YtdkgbdecmgligaaGreatDoorLexM
namespace Go.Proofs.YtdkgbdecmgligaaGreatDoor
open Go.Lib
set_option linter.unusedVariables false
set_option linter.unusedSimpArgs false
def nb (l : List UInt8) : List Nat := l.map UInt8.toNat
theorem nb_app (a b : List UInt8) : nb (a ++ b) = nb a ++ nb b := by unfold nb; simp
/-- A text's lines, without their ends. -/
def spl : List UInt8 → List (List UInt8)
  | [] => [[]]
  | c :: l => if c = 10 then [] :: spl l else match spl l with | [] => [[c]] | h :: t => (c :: h) :: t
theorem spl_ne : ∀ l, spl l ≠ []
  | [] => by simp [spl]
  | c :: l => by
    unfold spl
    split
    · simp
    · split <;> simp
theorem ix_hit (l : List UInt8) : index (10 :: l) [10] = 0 := by
  unfold index
  rw [if_pos (by simp [List.isPrefixOf])]
theorem ix_miss (c : UInt8) (l : List UInt8) (h : c ≠ 10) : index (c :: l) [10] = if index l [10] == -1 then -1 else index l [10] + 1 := by
  rw [index]
  rw [if_neg (by simp [List.isPrefixOf]; exact fun e => h e.symm)]
theorem splitK_spl : ∀ (l : List UInt8), splitK [10] 0 (count l [10]) l = spl l
  | [] => rfl
  | c :: l => by
    have ih := splitK_spl l
    by_cases h : c = 10
    · subst h
      rw [count_cons_eq, Nat.add_comm 1]
      unfold splitK
      rw [ix_hit]
      simp only [spl, if_pos]
      rw [if_neg (by decide)]
      simp only [List.length_singleton]
      show [] :: splitK [10] 0 (count l [10]) l = _
      rw [ih]
    · rw [count_cons_ne c 10 l h]
      unfold spl
      rw [if_neg h]
      rw [← ih]
      have hi := index_ge l [10]
      have hx := ix_miss c l h
      cases hk : count l [10] with
      | zero => simp only [splitK]
      | succ k =>
        unfold splitK
        by_cases m : index l [10] = -1
        · rw [if_pos (by rw [hx, m]; rfl), if_pos (by rw [m]; rfl)]
        · have hx' : index (c :: l) [10] = index l [10] + 1 := by rw [hx, if_neg (by simpa using m)]
          rw [if_neg (by rw [hx']; simp; omega), if_neg (by simpa using m), hx']
          have e : (index l [10] + 1).toNat = (index l [10]).toNat + 1 := by omega
          rw [e]
          simp only [Nat.add_zero, List.take_succ_cons, List.length_singleton, List.drop_succ_cons]
theorem spl_join : ∀ l, ((spl l).map (· ++ [10])).flatten = l ++ [10]
  | [] => rfl
  | c :: l => by
    have ih := spl_join l
    unfold spl
    by_cases h : c = 10
    · rw [if_pos h]
      simp only [List.map_cons, List.flatten_cons, ih, h, List.nil_append, List.cons_append]
    · rw [if_neg h]
      cases e : spl l with
      | nil => exact absurd e (spl_ne l)
      | cons a t =>
        rw [e] at ih
        simp only [List.map_cons, List.flatten_cons] at ih
        simp only [List.map_cons, List.flatten_cons, List.cons_append, ih]
theorem spl_no : ∀ l, ∀ p ∈ spl l, ∀ c ∈ p, c ≠ 10
  | [], p, hp, c, hc => by
    simp only [spl, List.mem_singleton] at hp
    subst hp; cases hc
  | b :: l, p, hp, c, hc => by
    have ih := spl_no l
    unfold spl at hp
    by_cases h : b = 10
    · rw [if_pos h] at hp
      rcases List.mem_cons.1 hp with rfl | hp
      · cases hc
      · exact ih p hp c hc
    · rw [if_neg h] at hp
      cases e : spl l with
      | nil => exact absurd e (spl_ne l)
      | cons a t =>
        rw [e] at hp ih
        rcases List.mem_cons.1 hp with rfl | hp
        · rcases List.mem_cons.1 hc with rfl | hc
          · exact h
          · exact ih a (by simp) c hc
        · exact ih p (by simp [hp]) c hc
/-- What stands ahead of a remark. -/
def told (l : List UInt8) : List UInt8 := l.takeWhile (fun c => c != 35)
theorem ix35_hit (l : List UInt8) : index (35 :: l) [35] = 0 := by
  unfold index
  rw [if_pos (by simp [List.isPrefixOf])]
theorem ix35_miss (c : UInt8) (l : List UInt8) (h : c ≠ 35) : index (c :: l) [35] = if index l [35] == -1 then -1 else index l [35] + 1 := by
  rw [index]
  rw [if_neg (by simp [List.isPrefixOf]; exact fun e => h e.symm)]
theorem cut_told : ∀ l, (cut l [35]).1 = told l
  | [] => rfl
  | c :: l => by
    have ih := cut_told l
    by_cases h : c = 35
    · subst h
      unfold cut told
      rw [ix35_hit]
      simp
    · have hx := ix35_miss c l h
      have hi := index_ge l [35]
      unfold told at *
      rw [List.takeWhile_cons_of_pos (by simp [h]), ← ih]
      by_cases m : index l [35] = -1
      · have hx' : index (c :: l) [35] = -1 := by rw [hx, m]; rfl
        unfold cut
        rw [hx', m]
        simp
      · have hx' : index (c :: l) [35] = index l [35] + 1 := by rw [hx, if_neg (by simpa using m)]
        have e : (index l [35] + 1).toNat = (index l [35]).toNat + 1 := by omega
        unfold cut
        rw [hx', if_pos (by omega), if_pos (by omega)]
        simp only [e, List.take_succ_cons]
theorem told_plus (l : List UInt8) : ∃ r, l = told l ++ r ∧ (r = [] ∨ ∃ r', r = 35 :: r') := by
  unfold told
  induction l with
  | nil => exact ⟨[], rfl, .inl rfl⟩
  | cons c l ih =>
    by_cases h : c = 35
    · subst h
      exact ⟨35 :: l, by simp, .inr ⟨l, rfl⟩⟩
    · obtain ⟨r, e, k⟩ := ih
      refine ⟨r, ?_, k⟩
      rw [List.takeWhile_cons_of_pos (by simp [h]), List.cons_append, ← e]
theorem told_no : ∀ (l : List UInt8), ∀ c ∈ told l, c ≠ 35
  | [], c, hc => by cases hc
  | b :: l, c, hc => by
    unfold told at hc
    by_cases h : b = 35
    · rw [List.takeWhile_cons_of_neg (by simp [h])] at hc; cases hc
    · rw [List.takeWhile_cons_of_pos (by simp [h])] at hc
      rcases List.mem_cons.1 hc with rfl | hc
      · exact h
      · exact told_no l c hc
/-- A line's words. -/
def wordsOf (l : List UInt8) : List (List UInt8) := fields (told l)
def plainL (l : List UInt8) : Prop := ∀ c ∈ l, 32 ≤ c.toNat ∧ c.toNat ≤ 126
instance (l : List UInt8) : Decidable (plainL l) := by unfold plainL; infer_instance
theorem isSp_plain {c : UInt8} (h : 32 ≤ c.toNat ∧ c.toNat ≤ 126) : isSp c = decide (c.toNat = 32) := by
  have e : ∀ k : UInt8, (c == k) = decide (c.toNat = k.toNat) := fun k => by
    rw [Bool.eq_iff_iff]; simp only [beq_iff_eq, decide_eq_true_eq]; exact UInt8.toNat_inj.symm
  unfold isSp
  simp only [e]
  have d9 : (9 : UInt8).toNat = 9 := rfl
  have d10 : (10 : UInt8).toNat = 10 := rfl
  have d11 : (11 : UInt8).toNat = 11 := rfl
  have d12 : (12 : UInt8).toNat = 12 := rfl
  have d13 : (13 : UInt8).toNat = 13 := rfl
  have d32 : (32 : UInt8).toNat = 32 := rfl
  rw [d9, d10, d11, d12, d13, d32]
  rw [Bool.eq_iff_iff]
  simp only [Bool.or_eq_true, decide_eq_true_eq]
  omega
theorem badC_plain {c : Nat} (h : 32 ≤ c ∧ c ≤ 126) : badC c = false := by unfold badC; simp; omega
/-- The words of what has no remark. -/
theorem runL_words : ∀ (l w : List UInt8) (n : Nat) (W : List (List Nat)) (O : List (Nat × List (List Nat))), plainL l → (∀ c ∈ l, c ≠ 35) →
    ∃ s, runL ⟨n, W, nb w, false, O⟩ (nb l) = .ok s ∧ s.no = n ∧ s.remark = false ∧ s.out = O ∧ endW s = W ++ (fieldsGo w l).map nb
  | [], w, n, W, O, _, _ => by
    refine ⟨_, rfl, rfl, rfl, rfl, ?_⟩
    unfold endW fieldsGo
    cases w with
    | nil => simp [nb]
    | cons a t => simp [nb]
  | c :: l, w, n, W, O, hp, hr => by
    have hc := hp c (by simp)
    have h35 : c.toNat ≠ 35 := fun e => hr c (by simp) (UInt8.toNat_inj.1 e)
    have hs := isSp_plain hc
    have hpl : plainL l := fun x hx => hp x (by simp [hx])
    have hrl : ∀ x ∈ l, x ≠ 35 := fun x hx => hr x (by simp [hx])
    have hb := badC_plain hc
    show ∃ s, runL _ (c.toNat :: nb l) = .ok s ∧ _
    simp only [runL, hb, Bool.false_eq_true, if_false]
    by_cases q : c.toNat = 32
    · have e1 : step1 ⟨n, W, nb w, false, O⟩ c.toNat = ⟨n, endW ⟨n, W, nb w, false, O⟩, nb [], false, O⟩ := by
        unfold step1
        rw [if_neg (by omega), if_pos (.inl q)]
        simp [h35, nb]
      rw [e1]
      obtain ⟨s, h1, h2, h3, h4, h5⟩ := runL_words l [] n (endW ⟨n, W, nb w, false, O⟩) O hpl hrl
      refine ⟨s, h1, h2, h3, h4, ?_⟩
      rw [h5]
      have hi : isSp c = true := by rw [hs]; simp [q]
      cases w with
      | nil => rw [fieldsGo_sp c l hi]; simp [endW, nb]
      | cons a t =>
        rw [fieldsGo_end (a :: t) c l hi (by simp)]
        simp [endW, nb]
    · have e1 : step1 ⟨n, W, nb w, false, O⟩ c.toNat = ⟨n, W, nb (w ++ [c]), false, O⟩ := by
        unfold step1
        rw [if_neg (by omega), if_neg (by simp; omega)]
        simp [nb]
      rw [e1]
      obtain ⟨s, h1, h2, h3, h4, h5⟩ := runL_words l (w ++ [c]) n W O hpl hrl
      refine ⟨s, h1, h2, h3, h4, ?_⟩
      rw [h5, fieldsGo_more w c l (by rw [hs]; simp [q])]
/-- One line, with its end. -/
theorem runL_line (l : List UInt8) (n : Nat) (O : List (Nat × List (List Nat))) (hp : plainL l) :
    runL ⟨n, [], [], false, O⟩ (nb l ++ [10]) = .ok ⟨n + 1, [], [], false, if wordsOf l = [] then O else O ++ [(n, (wordsOf l).map nb)]⟩ := by
  obtain ⟨r, e, hr⟩ := told_plus l
  have hpt : plainL (told l) := fun c hc => hp c (by rw [e]; simp [hc])
  have hpr : plainL r := fun c hc => hp c (by rw [e]; simp [hc])
  obtain ⟨s, h1, h2, h3, h4, h5⟩ := runL_words (told l) [] n [] O hpt (told_no l)
  have b10 : badC 10 = false := rfl
  have key : ∃ u, runL s (nb r) = .ok u ∧ u.no = n ∧ u.out = O ∧ endW u = endW s := by
    rcases hr with rfl | ⟨r', rfl⟩
    · exact ⟨s, rfl, h2, h4, rfl⟩
    · have b35 : badC 35 = false := rfl
      have hpr' : ∀ c ∈ nb r', 32 ≤ c ∧ c ≤ 126 := fun c hc => by
        unfold nb at hc
        obtain ⟨x, hx, rfl⟩ := List.mem_map.1 hc
        exact hpr x (by simp [hx])
      refine ⟨⟨n, endW s, [], true, O⟩, ?_, rfl, rfl, rfl⟩
      show runL s (35 :: nb r') = _
      simp only [runL, b35, Bool.false_eq_true, if_false]
      have e1 : step1 s 35 = ⟨n, endW s, [], true, O⟩ := by
        unfold step1
        rw [if_neg (by omega), if_pos (.inr (.inl rfl)), h2, h4]
        simp
      rw [e1]
      exact runL_remark _ _ rfl rfl hpr'
  obtain ⟨u, k1, k2, k3, k4⟩ := key
  have hl : nb l = nb (told l) ++ nb r := by rw [← nb_app, ← e]
  rw [hl, List.append_assoc, runL_app]
  have h1' : runL ⟨n, [], [], false, O⟩ (nb (told l)) = .ok s := h1
  rw [h1']
  simp only
  rw [runL_app, k1]
  simp only [runL, b10, Bool.false_eq_true, if_false]
  have e2 : endW u = (wordsOf l).map nb := by rw [k4, h5]; rfl
  unfold step1
  rw [if_pos rfl, e2, k2, k3]
  congr 2
  by_cases z : wordsOf l = []
  · simp [z]
  · rw [if_neg (by simpa using z), if_neg z]
/-- A line that isn't plain. -/
theorem runL_bad : ∀ (l : List UInt8) (s : LSt) (m : List Nat), ¬ plainL l → (∀ c ∈ l, c ≠ 10) → runL s (nb l ++ m) = .error s.no
  | [], s, m, h, _ => absurd (fun c hc => by cases hc) h
  | c :: l, s, m, h, h10 => by
    show runL s (c.toNat :: (nb l ++ m)) = _
    unfold runL
    have hc10 : c.toNat ≠ 10 := fun e => h10 c (by simp) (UInt8.toNat_inj.1 e)
    by_cases hb : badC c.toNat = true
    · rw [if_pos hb]
    · rw [if_neg hb]
      have hc : 32 ≤ c.toNat ∧ c.toNat ≤ 126 := by
        unfold badC at hb
        simp at hb
        omega
      rw [runL_bad l _ m (fun k => h fun x hx => by
        rcases List.mem_cons.1 hx with rfl | hx
        · exact hc
        · exact k x hx) fun x hx => h10 x (by simp [hx])]
      unfold step1
      rw [if_neg hc10]
      split <;> rfl
/-- Line by line. -/
def lineO (n : Nat) (O : List (Nat × List (List Nat))) (l : List UInt8) : List (Nat × List (List Nat)) := if wordsOf l = [] then O else O ++ [(n, (wordsOf l).map nb)]
def linesP (n : Nat) (O : List (Nat × List (List Nat))) : List (List UInt8) → Except Nat (List (Nat × List (List Nat)))
  | [] => .ok O
  | p :: ps => if plainL p then linesP (n + 1) (lineO n O p) ps else .error n
theorem runL_lines : ∀ (ps : List (List UInt8)) (n : Nat) (O : List (Nat × List (List Nat))), (∀ p ∈ ps, ∀ c ∈ p, c ≠ 10) →
    runL ⟨n, [], [], false, O⟩ (nb ((ps.map (· ++ [10])).flatten)) = (match linesP n O ps with | .error k => .error k | .ok o => .ok ⟨n + ps.length, [], [], false, o⟩)
  | [], n, O, _ => rfl
  | p :: ps, n, O, h => by
    have hp10 := h p (by simp)
    simp only [List.map_cons, List.flatten_cons]
    rw [nb_app, nb_app]
    have e10 : nb [10] = [10] := rfl
    rw [e10]
    unfold linesP
    by_cases q : plainL p
    · rw [if_pos q, runL_app, runL_line p n O q]
      simp only
      have ih := runL_lines ps (n + 1) (lineO n O p) fun x hx => h x (by simp [hx])
      unfold lineO at *
      rw [ih]
      cases linesP (n + 1) (if wordsOf p = [] then O else O ++ [(n, (wordsOf p).map nb)]) ps with
      | error k => rfl
      | ok o => simp only [List.length_cons]; congr 2; omega
    · rw [if_neg q, List.append_assoc, runL_bad p _ _ q hp10]
/-- A text's lines, line by line. -/
theorem runL_spl (l : List UInt8) : runL st0 (nb l ++ [10]) = (match linesP 1 [] (spl l) with | .error k => .error k | .ok o => .ok ⟨1 + (spl l).length, [], [], false, o⟩) := by
  have h := runL_lines (spl l) 1 [] (spl_no l)
  rw [spl_join, nb_app] at h
  exact h
end Go.Proofs.YtdkgbdecmgligaaGreatDoor
