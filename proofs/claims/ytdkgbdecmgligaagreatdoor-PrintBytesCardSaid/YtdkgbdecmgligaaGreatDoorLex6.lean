/- Names (math). -/
import Derived.Test.YtdkgbdecmgligaaGreatDoorMLexA
import Derived.Test.YtdkgbdecmgligaaGreatDoorLexM
namespace Go.Proofs.YtdkgbdecmgligaaGreatDoor
open Go.RowKit
set_option linter.unusedVariables false
set_option linter.unusedSimpArgs false
/-- A text's bytes in a list. -/
def T (s : ByteArray) : List Nat := s.data.toList.map UInt8.toNat
theorem T_len (s : ByteArray) : (T s).length = s.size := by unfold T; simp
theorem T_bt (s : ByteArray) (k : Nat) (hk : k < (T s).length) : (T s)[k] = bt s k := by
  have h : k < s.size := by rw [← T_len]; exact hk
  rw [← bt_at s k h]
  show (s.data.toList.map UInt8.toNat)[k]'(by simpa using h) = s[k].toNat
  rw [List.getElem_map]
  rfl
theorem T_front (s : ByteArray) (n : Nat) : T (s.extract 0 n) = (T s).take n := by
  unfold T
  rw [ByteArray.data_extract, Array.toList_extract]
  simp [List.extract, List.map_take]
theorem allAt_iff (f : Nat → Nat → Bool) (s : ByteArray) : ∀ n, allAt f s n = true ↔ ∀ k, k < n → f k (bt s k) = true
  | 0 => ⟨fun _ k hk => by omega, fun _ => rfl⟩
  | n + 1 => by
    unfold allAt
    rw [Bool.and_eq_true, allAt_iff f s n]
    constructor
    · rintro ⟨h1, h2⟩ k hk
      by_cases e : k = n
      · subst e; exact h2
      · exact h1 k (by omega)
    · intro h
      exact ⟨fun k hk => h k (by omega), h n (by omega)⟩
theorem name_iff (s : ByteArray) : nameB s = true ↔ (1 ≤ s.size ∧ s.size ≤ 16) ∧ ∀ k, k < s.size → okAt k (bt s k) = true := by
  unfold nameB
  simp only [Bool.and_eq_true, decide_eq_true_eq, allAt_iff]
theorem name_num {s : ByteArray} (h : nameB s = true) : (numV s).2 = false := by
  obtain ⟨⟨h1, h2⟩, h3⟩ := (name_iff s).1 h
  have h0 := (okAt_iff _ _).1 (h3 0 (by omega))
  have hu : okU s = false := by
    unfold okU
    have hd : dgAt 0 (bt s 0) = false := by
      cases q : dgAt 0 (bt s 0)
      · rfl
      · have := (dgAt_iff _ _).1 q; omega
    rw [allAt_no dgAt s 0 hd s.size (by omega)]
    simp
  unfold numV
  rw [if_neg (by omega), if_neg (fun z => by have := (toList_one z).2; have e : (48 : UInt8).toNat = 48 := rfl; omega), hu]
  rfl
theorem front_size (s : ByteArray) (n : Nat) (hn : n ≤ s.size) : (s.extract 0 n).size = n := by
  rw [← T_len, T_front, List.length_take, T_len]; omega
theorem front_bt (s : ByteArray) (n k : Nat) (hn : n ≤ s.size) (hk : k < n) : bt (s.extract 0 n) k = bt s k := by
  have h1 : k < (T (s.extract 0 n)).length := by rw [T_len, front_size s n hn]; exact hk
  rw [← T_bt _ k h1, ← T_bt s k (by rw [T_len]; omega)]
  simp only [T_front, List.getElem_take]
theorem name_front {s : ByteArray} (h : nameB s = true) (n : Nat) (h1 : 1 ≤ n) (h2 : n ≤ s.size) : nameB (s.extract 0 n) = true := by
  obtain ⟨⟨_, h4⟩, h3⟩ := (name_iff s).1 h
  refine (name_iff _).2 ⟨by rw [front_size s n h2]; omega, fun k hk => ?_⟩
  rw [front_size s n h2] at hk
  rw [front_bt s n k h2 hk]
  exact h3 k (by omega)
theorem runL_word : ∀ (m l : List Nat) (n : Nat) (W : List (List Nat)) (O : List (Nat × List (List Nat))), (∀ c ∈ m, 33 ≤ c ∧ c ≤ 126 ∧ c ≠ 35) → runL ⟨n, W, l, false, O⟩ m = .ok ⟨n, W, l ++ m, false, O⟩
  | [], l, n, W, O, _ => by simp [runL]
  | c :: m, l, n, W, O, h => by
    have hc := h c (by simp)
    have hb : badC c = false := by unfold badC; simp; omega
    simp only [runL, hb, Bool.false_eq_true, if_false]
    have e : step1 ⟨n, W, l, false, O⟩ c = ⟨n, W, l ++ [c], false, O⟩ := by
      unfold step1
      rw [if_neg (by omega), if_neg (by simp; omega)]
    rw [e, runL_word m (l ++ [c]) n W O fun q hq => h q (by simp [hq])]
    simp
/-- A name is a text of one line with one word. -/
theorem name_line {s : ByteArray} (h : nameB s = true) : runL st0 (T s ++ [10]) = .ok ⟨2, [], [], false, [(1, [T s])]⟩ := by
  obtain ⟨⟨h1, h2⟩, h3⟩ := (name_iff s).1 h
  have hall : ∀ c ∈ T s, 33 ≤ c ∧ c ≤ 126 ∧ c ≠ 35 := fun c hc => by
    obtain ⟨k, hk, rfl⟩ := List.getElem_of_mem hc
    rw [T_bt s k hk]
    have := (okAt_iff _ _).1 (h3 k (by rw [← T_len]; exact hk))
    omega
  have hne : T s ≠ [] := fun e => by have := T_len s; rw [e] at this; simp at this; omega
  rw [runL_app]
  unfold st0
  rw [runL_word _ _ _ _ _ hall]
  have b : badC 10 = false := rfl
  simp only [runL, b, Bool.false_eq_true, if_false, List.nil_append]
  unfold step1 endW
  simp [hne]
end Go.Proofs.YtdkgbdecmgligaaGreatDoor
