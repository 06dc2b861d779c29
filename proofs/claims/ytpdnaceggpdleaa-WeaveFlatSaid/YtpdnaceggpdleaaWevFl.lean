/- The law on places: where spots lie in the square, and how great triangles are. -/
import Derived.Test.YtpdnaceggpdleaaWevU
namespace Go.Proofs.Ytpdnaceggpdleaa
open Go.RowKit
set_option linter.unusedVariables false
set_option linter.unusedSimpArgs false
set_option linter.unnecessarySimpa false
set_option maxRecDepth 100000
def PT : Int := 720720
/-- A spot's place, as the law reckons it. -/
def plc (r : Nat → Nat) (R : Nat) (s : Spt) : Int × Int :=
  if s.1 = 3 then (s.2.1 * 720720 / (R : Int), s.2.2 * 720720 / (R : Int))
  else
    let x := if s.1 = 2 then s.2.2 * 720720 / (r s.2.1.toNat : Int) else 0
    if s.2.1 = 0 then (x, 0) else if s.2.1 = 1 then (720720, x) else if s.2.1 = 2 then (720720 - x, 720720) else (0, 720720 - x)
/-- A part of a side in so many. -/
def prt (n : Nat) : Int := 720720 / (n : Int)
theorem prt_mul {n : Nat} (h1 : 1 ≤ n) (h2 : n ≤ 16) : prt n * (n : Int) = 720720 := by
  have : n = 1 ∨ n = 2 ∨ n = 3 ∨ n = 4 ∨ n = 5 ∨ n = 6 ∨ n = 7 ∨ n = 8 ∨ n = 9 ∨ n = 10 ∨ n = 11 ∨ n = 12 ∨ n = 13 ∨ n = 14 ∨ n = 15 ∨ n = 16 := by omega
  rcases this with rfl | rfl | rfl | rfl | rfl | rfl | rfl | rfl | rfl | rfl | rfl | rfl | rfl | rfl | rfl | rfl <;> decide
theorem prt_pos {n : Nat} (h1 : 1 ≤ n) (h2 : n ≤ 16) : 0 < prt n := by
  have h := prt_mul h1 h2
  rcases Int.lt_or_le 0 (prt n) with h3 | h3
  · exact h3
  · have : prt n * (n : Int) ≤ 0 := Int.mul_nonpos_of_nonpos_of_nonneg h3 (by omega)
    omega
theorem div_prt {n : Nat} (h1 : 1 ≤ n) (h2 : n ≤ 16) (a : Int) : a * 720720 / (n : Int) = a * prt n := by
  rw [← prt_mul h1 h2, ← Int.mul_assoc]
  exact Int.mul_ediv_cancel _ (by omega)
theorem plc_inn {r : Nat → Nat} {R : Nat} (h1 : 1 ≤ R) (h2 : R ≤ 16) (a b : Nat) : plc r R (innS a b) = ((a : Int) * prt R, (b : Int) * prt R) := by
  unfold plc innS
  simp only [if_true, div_prt h1 h2]
/-- A place on a side, so far along. -/
def sid (k : Nat) (x : Int) : Int × Int := if k = 0 then (x, 0) else if k = 1 then (720720, x) else if k = 2 then (720720 - x, 720720) else (0, 720720 - x)
theorem plc_cor (r : Nat → Nat) (R : Nat) {k : Nat} (hk : k < 4) : plc r R (corS k) = sid k 0 := by
  unfold plc corS sid
  rcases four1 hk with rfl | rfl | rfl | rfl <;> simp
theorem plc_edg {r : Nat → Nat} (R : Nat) {k i : Nat} (hk : k < 4) (h1 : 1 ≤ r k) (h2 : r k ≤ 16) : plc r R (edgS k i) = sid k ((i : Int) * prt (r k)) := by
  unfold plc edgS sid
  rcases four1 hk with rfl | rfl | rfl | rfl <;> simp [div_prt h1 h2]
theorem sid_end {k : Nat} (hk : k < 4) : sid k 720720 = sid ((k + 1) % 4) 0 := by
  rcases four1 hk with rfl | rfl | rfl | rfl <;> simp [sid]
theorem plc_out {r : Nat → Nat} (R : Nat) {k i : Nat} (hk : k < 4) (h1 : 1 ≤ r k) (h2 : r k ≤ 16) (hi : i ≤ r k) : plc r R (outS k (r k) i) = sid k ((i : Int) * prt (r k)) := by
  by_cases h0 : i = 0
  · subst h0
    rw [cor_out0, plc_cor r R hk]
    simp
  · by_cases h3 : i = r k
    · rw [h3, out_end h1, plc_cor r R (by omega), ← sid_end hk, Int.mul_comm, prt_mul h1 h2]
    · rw [out_mid (by omega) (by omega), plc_edg R hk h1 h2]
/-- Twice a triangle's area. -/
def are (p q s : Int × Int) : Int := (q.1 - p.1) * (s.2 - p.2) - (q.2 - p.2) * (s.1 - p.1)
def arT (r : Nat → Nat) (R : Nat) (t : Tri) : Int := are (plc r R t.1) (plc r R t.2.1) (plc r R t.2.2)
def sumA (r : Nat → Nat) (R : Nat) (l : List Tri) : Int := (l.map (arT r R)).sum
theorem sumA_app (r : Nat → Nat) (R : Nat) (l m : List Tri) : sumA r R (l ++ m) = sumA r R l + sumA r R m := by simp [sumA]
theorem sumA_cons (r : Nat → Nat) (R : Nat) (t : Tri) (l : List Tri) : sumA r R (t :: l) = arT r R t + sumA r R l := by simp [sumA]
theorem plc_bes {r : Nat → Nat} {R k t : Nat} (h1 : 1 ≤ R) (h2 : R ≤ 16) (hk : k < 4) (ht : t ≤ R) : plc r R (besS k t R) = (if k = 0 then ((t : Int) * prt R, prt R) else if k = 1 then (720720 - prt R, (t : Int) * prt R) else if k = 2 then (720720 - (t : Int) * prt R, 720720 - prt R) else (prt R, 720720 - (t : Int) * prt R)) := by
  have e := prt_mul h1 h2
  have e1 : ((R - 1 : Nat) : Int) = (R : Int) - 1 := by omega
  have e2 : ((R - t : Nat) : Int) = (R : Int) - (t : Int) := by omega
  rcases four1 hk with rfl | rfl | rfl | rfl
  · show plc r R (innS t 1) = _
    rw [plc_inn h1 h2]; simp
  · show plc r R (innS (R - 1) t) = _
    rw [plc_inn h1 h2, e1]
    simp only [if_false, if_true, show ¬ (1 = 0) by omega, Prod.mk.injEq, and_true]
    rw [← e]; grind
  · show plc r R (innS (R - t) (R - 1)) = _
    rw [plc_inn h1 h2, e1, e2]
    simp only [if_false, if_true, show ¬ (2 = 0) by omega, show ¬ (2 = 1) by omega, Prod.mk.injEq]
    rw [← e]
    exact ⟨by grind, by grind⟩
  · show plc r R (innS 1 (R - t)) = _
    rw [plc_inn h1 h2, e2]
    simp only [if_false, show ¬ (3 = 0) by omega, show ¬ (3 = 1) by omega, show ¬ (3 = 2) by omega, Prod.mk.injEq]
    rw [← e]
    exact ⟨by grind, by grind⟩
theorem area_A {r : Nat → Nat} {R k i t : Nat} (hk : k < 4) (h1 : 1 ≤ r k) (h2 : r k ≤ 16) (h3 : 1 ≤ R) (h4 : R ≤ 16) (hi : i + 1 ≤ r k) (ht : t ≤ R) : arT r R (outS k (r k) i, outS k (r k) (i + 1), besS k t R) = prt (r k) * prt R := by
  unfold arT are
  simp only
  rw [plc_out R (i := i) hk h1 h2 (by omega), plc_out R (i := i + 1) hk h1 h2 hi, plc_bes h3 h4 hk ht, show ((i + 1 : Nat) : Int) = (i : Int) + 1 by omega]
  generalize prt (r k) = g
  generalize prt R = f
  rcases four1 hk with rfl | rfl | rfl | rfl <;> simp [sid] <;> grind
theorem area_B {r : Nat → Nat} {R k i t : Nat} (hk : k < 4) (h1 : 1 ≤ r k) (h2 : r k ≤ 16) (h3 : 1 ≤ R) (h4 : R ≤ 16) (hi : i ≤ r k) (ht : t + 1 ≤ R) : arT r R (outS k (r k) i, besS k (t + 1) R, besS k t R) = prt R * prt R := by
  unfold arT are
  simp only
  rw [plc_out R hk h1 h2 hi, plc_bes (t := t + 1) h3 h4 hk ht, plc_bes (t := t) h3 h4 hk (by omega), show ((t + 1 : Nat) : Int) = (t : Int) + 1 by omega]
  generalize prt (r k) = g
  generalize prt R = f
  rcases four1 hk with rfl | rfl | rfl | rfl <;> simp [sid] <;> grind
theorem area_1 {r : Nat → Nat} {R a b : Nat} (h3 : 1 ≤ R) (h4 : R ≤ 16) : arT r R (innS a b, innS (a + 1) b, innS (a + 1) (b + 1)) = prt R * prt R := by
  unfold arT are
  simp only
  rw [plc_inn h3 h4, plc_inn h3 h4, plc_inn h3 h4, show ((a + 1 : Nat) : Int) = (a : Int) + 1 by omega, show ((b + 1 : Nat) : Int) = (b : Int) + 1 by omega]
  grind
theorem area_2 {r : Nat → Nat} {R a b : Nat} (h3 : 1 ≤ R) (h4 : R ≤ 16) : arT r R (innS a b, innS (a + 1) (b + 1), innS a (b + 1)) = prt R * prt R := by
  unfold arT are
  simp only
  rw [plc_inn h3 h4, plc_inn h3 h4, plc_inn h3 h4, show ((a + 1 : Nat) : Int) = (a : Int) + 1 by omega, show ((b + 1 : Nat) : Int) = (b : Int) + 1 by omega]
  grind
theorem upTo_sum {r : Nat → Nat} {R : Nat} {f : Nat → List Tri} {c : Int} : ∀ n, (∀ i, i < n → sumA r R (f i) = c) → sumA r R (upTo f n) = (n : Int) * c
  | 0, _ => by simp [upTo, sumA]
  | n + 1, h => by
    show sumA r R (upTo f n ++ f n) = _
    rw [sumA_app, upTo_sum n (fun i hi => h i (by omega)), h n (by omega), show ((n + 1 : Nat) : Int) = (n : Int) + 1 by omega]
    grind
theorem sqA_sum {r : Nat → Nat} {R a b : Nat} (h3 : 1 ≤ R) (h4 : R ≤ 16) : sumA r R (sqA a b) = 2 * (prt R * prt R) := by
  unfold sqA sqS
  rw [sumA_cons, sumA_cons, area_1 h3 h4, area_2 h3 h4]
  simp [sumA]; omega
theorem sqs_sum {r : Nat → Nat} {R : Nat} (h3 : 2 ≤ R) (h4 : R ≤ 16) : sumA r R (sqRows R (R - 2)) = ((R : Int) - 2) * (((R : Int) - 2) * (2 * (prt R * prt R))) := by
  show sumA r R (upTo (fun b => upTo (fun a => sqA (a + 1) (b + 1)) (R - 2)) (R - 2)) = _
  rw [upTo_sum (c := ((R - 2 : Nat) : Int) * (2 * (prt R * prt R))) _ (fun i _ => upTo_sum _ (fun j _ => sqA_sum (by omega) h4)), show ((R - 2 : Nat) : Int) = (R : Int) - 2 by omega]
theorem stp_sum {r : Nat → Nat} {R k : Nat} (hk : k < 4) (h1 : 1 ≤ r k) (h2 : r k ≤ 16) (h3 : 2 ≤ R) (h4 : R ≤ 16) : ∀ n i t, i ≤ r k → t ≤ R - 1 → leftS (r k) R i t = n → sumA r R (stpS k (r k) R n i t) = ((r k : Int) - (i : Int)) * (prt (r k) * prt R) + ((R : Int) - 1 - (t : Int)) * (prt R * prt R)
  | 0, i, t, hi, ht, hn => by
    unfold leftS at hn
    have e1 : (r k : Int) - (i : Int) = 0 := by omega
    have e2 : (R : Int) - 1 - (t : Int) = 0 := by omega
    rw [e1, e2]
    simp [stpS, sumA]
  | n + 1, i, t, hi, ht, hn => by
    unfold stpS
    by_cases hg : goA (r k) R i t
    · rw [if_pos hg]
      obtain ⟨g1, g2⟩ := left_A hg hn
      rw [sumA_cons, stp_sum hk h1 h2 h3 h4 n (i + 1) t g2 ht g1, area_A hk h1 h2 (by omega) h4 g2 (by omega), show ((i + 1 : Nat) : Int) = (i : Int) + 1 by omega]
      generalize prt (r k) * prt R = u
      grind
    · rw [if_neg hg]
      obtain ⟨g1, g2⟩ := left_B (not_goA hg hi ht hn) hn
      rw [sumA_cons, stp_sum hk h1 h2 h3 h4 n i (t + 1) hi g2 g1, area_B hk h1 h2 (by omega) h4 hi (by omega), show ((t + 1 : Nat) : Int) = (t : Int) + 1 by omega]
      generalize prt (r k) * prt R = u
      grind
theorem strip_sum {r : Nat → Nat} {R k : Nat} (hk : k < 4) (h1 : 1 ≤ r k) (h2 : r k ≤ 16) (h3 : 2 ≤ R) (h4 : R ≤ 16) : sumA r R (stripS k (r k) R) = 720720 * prt R + ((R : Int) - 2) * (prt R * prt R) := by
  have h := stp_sum hk h1 h2 h3 h4 _ 0 1 (by omega) (by omega) rfl
  unfold stripS
  rw [h, ← prt_mul h1 h2]
  generalize prt (r k) = g
  grind
theorem tris_sum {r : Nat → Nat} {R : Nat} (hr : ∀ k, k < 4 → 1 ≤ r k ∧ r k ≤ 16) (h3 : 2 ≤ R) (h4 : R ≤ 16) : sumA r R (trisR r R) = 2 * 720720 * 720720 := by
  unfold trisR
  rw [if_neg (by omega), sumA_app, sqs_sum h3 h4]
  unfold stripsS
  rw [upTo_sum (c := 720720 * prt R + ((R : Int) - 2) * (prt R * prt R)) 4 (fun k hk => strip_sum hk (hr k hk).1 (hr k hk).2 h3 h4)]
  have e := prt_mul (show 1 ≤ R by omega) h4
  have e2 : (R : Int) * (R : Int) * (prt R * prt R) = 720720 * 720720 := by rw [← e]; grind
  have e3 : (720720 : Int) * prt R = (R : Int) * (prt R * prt R) := by rw [← e]; grind
  rw [e3]
  generalize hff : prt R * prt R = ff at *
  have e4 : (2 : Int) * 720720 * 720720 = 2 * ((R : Int) * (R : Int) * ff) := by rw [e2]; omega
  rw [e4]
  grind
theorem upTo_all {α : Type} {f : Nat → List α} {p : α → Prop} {n : Nat} (h : ∀ i, i < n → ∀ x ∈ f i, p x) : ∀ x ∈ upTo f n, p x := fun x hx => by
  obtain ⟨i, hi, hm⟩ := mem_upTo.1 hx
  exact h i hi x hm
theorem stp_pos {r : Nat → Nat} {R k : Nat} (hk : k < 4) (h1 : 1 ≤ r k) (h2 : r k ≤ 16) (h3 : 2 ≤ R) (h4 : R ≤ 16) : ∀ n i t, i ≤ r k → t ≤ R - 1 → leftS (r k) R i t = n → ∀ x ∈ stpS k (r k) R n i t, 0 < arT r R x
  | 0, i, t, _, _, _, x, hx => by simp [stpS] at hx
  | n + 1, i, t, hi, ht, hn, x, hx => by
    have pf := prt_pos (show 1 ≤ R by omega) h4
    have pg := prt_pos h1 h2
    unfold stpS at hx
    by_cases hg : goA (r k) R i t
    · rw [if_pos hg] at hx
      obtain ⟨g1, g2⟩ := left_A hg hn
      rcases List.mem_cons.1 hx with rfl | hx
      · rw [area_A hk h1 h2 (by omega) h4 g2 (by omega)]; exact Int.mul_pos pg pf
      · exact stp_pos hk h1 h2 h3 h4 n (i + 1) t g2 ht g1 x hx
    · rw [if_neg hg] at hx
      obtain ⟨g1, g2⟩ := left_B (not_goA hg hi ht hn) hn
      rcases List.mem_cons.1 hx with rfl | hx
      · rw [area_B hk h1 h2 (by omega) h4 hi (by omega)]; exact Int.mul_pos pf pf
      · exact stp_pos hk h1 h2 h3 h4 n i (t + 1) hi g2 g1 x hx
theorem tris_pos {r : Nat → Nat} {R : Nat} (hr : ∀ k, k < 4 → 1 ≤ r k ∧ r k ≤ 16) (h3 : 2 ≤ R) (h4 : R ≤ 16) : ∀ x ∈ trisR r R, 0 < arT r R x := fun x hx => by
  have pf := prt_pos (show 1 ≤ R by omega) h4
  unfold trisR at hx
  rw [if_neg (by omega)] at hx
  rcases List.mem_append.1 hx with h | h
  · unfold sqRows sqRow sqA sqS at h
    obtain ⟨b, _, h⟩ := mem_upTo.1 h
    obtain ⟨a, _, h⟩ := mem_upTo.1 h
    simp only [List.mem_cons, List.not_mem_nil, or_false] at h
    rcases h with rfl | rfl
    · rw [area_1 (by omega) h4]; exact Int.mul_pos pf pf
    · rw [area_2 (by omega) h4]; exact Int.mul_pos pf pf
  · unfold stripsS at h
    obtain ⟨k, hk, h⟩ := mem_upTo.1 h
    exact stp_pos hk (hr k hk).1 (hr k hk).2 h3 h4 _ 0 1 (by omega) (by omega) rfl x h
theorem mul_bdW {x y : Int} (hx : -720720 ≤ x ∧ x ≤ 720720) (hy : -720720 ≤ y ∧ y ≤ 720720) : -519437318400 ≤ x * y ∧ x * y ≤ 519437318400 := by
  have h : (x * y).natAbs ≤ 720720 * 720720 := by
    rw [Int.natAbs_mul]
    exact Nat.mul_le_mul (by omega) (by omega)
  omega
theorem part_bd {n i : Nat} (h1 : 1 ≤ n) (h2 : n ≤ 16) (hi : i ≤ n) : 0 ≤ (i : Int) * prt n ∧ (i : Int) * prt n ≤ 720720 := by
  have hp := prt_pos h1 h2
  refine ⟨Int.mul_nonneg (by omega) (by omega), ?_⟩
  rw [← prt_mul h1 h2, Int.mul_comm (prt n)]
  exact Int.mul_le_mul_of_nonneg_right (by omega) (by omega)
theorem sid_bd {k : Nat} {x : Int} (h : 0 ≤ x ∧ x ≤ 720720) : (0 ≤ (sid k x).1 ∧ (sid k x).1 ≤ 720720) ∧ (0 ≤ (sid k x).2 ∧ (sid k x).2 ≤ 720720) := by
  unfold sid
  split
  · simp only; omega
  · split
    · simp only; omega
    · split <;> simp only <;> omega
theorem plc_bd {r : Nat → Nat} (hr : ∀ k, k < 4 → 1 ≤ r k ∧ r k ≤ 16) {R : Nat} (h1 : 1 ≤ R) (h2 : R ≤ 16) {s : Spt} (hs : s ∈ spotsR r R) : (0 ≤ (plc r R s).1 ∧ (plc r R s).1 ≤ 720720) ∧ (0 ≤ (plc r R s).2 ∧ (plc r R s).2 ≤ 720720) := by
  rcases mem_spots.1 hs with ⟨k, hk, rfl⟩ | ⟨k, i, hk, _, hi, rfl⟩ | ⟨a, b, _, ha, _, hb, rfl⟩
  · rw [plc_cor _ _ hk]; exact sid_bd (by omega)
  · rw [plc_edg _ hk (hr k hk).1 (hr k hk).2]; exact sid_bd (part_bd (hr k hk).1 (hr k hk).2 (by omega))
  · rw [plc_inn h1 h2]; exact ⟨part_bd h1 h2 (by omega), part_bd h1 h2 (by omega)⟩
theorem sumA_pos {r : Nat → Nat} {R : Nat} : ∀ {l : List Tri}, (∀ x ∈ l, 0 < arT r R x) → 0 ≤ sumA r R l
  | [], _ => by simp [sumA]
  | t :: l, h => by
    rw [sumA_cons]
    have := sumA_pos (fun x hx => h x (List.mem_cons_of_mem _ hx))
    have := h t List.mem_cons_self
    omega
theorem sumA_take {r : Nat → Nat} {R : Nat} {l : List Tri} (h : ∀ x ∈ l, 0 < arT r R x) (i : Nat) : 0 ≤ sumA r R (l.take i) ∧ sumA r R (l.take i) ≤ sumA r R l := by
  have e : sumA r R l = sumA r R (l.take i) + sumA r R (l.drop i) := by rw [← sumA_app, List.take_append_drop]
  have h1 := sumA_pos (l := l.take i) (fun x hx => h x (List.mem_of_mem_take hx))
  have h2 := sumA_pos (l := l.drop i) (fun x hx => h x (List.mem_of_mem_drop hx))
  omega
/-- What the law on places asks of spots and triangles. -/
structure FlatP (r : Nat → Nat) (S : List Spt) (T : List NTri) (X : List Tri) : Prop where
  num : T = numT S X
  mem : ∀ t ∈ X, in3 S t
  pos : ∀ t ∈ X, 0 < arT r (mxR r 4) t
  sum : sumA r (mxR r 4) X = 2 * 720720 * 720720
theorem flat_any {r : Nat → Nat} (hr : ∀ k, k < 4 → 1 ≤ r k ∧ r k ≤ 16) : FlatP r (spotsW r) (trisW r) (trisR r (mxR r 4)) := by
  obtain ⟨h1, h2⟩ := most_bd hr
  by_cases e : mxR r 4 = 1
  · have c0 := plc_cor r (mxR r 4) (k := 0) (by omega)
    have c1 := plc_cor r (mxR r 4) (k := 1) (by omega)
    have c2 := plc_cor r (mxR r 4) (k := 2) (by omega)
    have c3 := plc_cor r (mxR r 4) (k := 3) (by omega)
    have ht : trisR r (mxR r 4) = sqS (corS 0) (corS 1) (corS 2) (corS 3) := by unfold trisR; rw [if_pos e]
    refine ⟨rfl, ?_, ?_, ?_⟩
    · rw [ht]
      intro t h
      unfold sqS at h
      simp only [List.mem_cons, List.not_mem_nil, or_false] at h
      rcases h with rfl | rfl <;> exact ⟨cor_in (by omega), cor_in (by omega), cor_in (by omega)⟩
    · rw [ht]
      intro t h
      unfold sqS at h
      simp only [List.mem_cons, List.not_mem_nil, or_false] at h
      rcases h with rfl | rfl <;> unfold arT <;> simp only [c0, c1, c2, c3] <;> decide
    · rw [ht]
      unfold sumA sqS arT
      simp only [List.map_cons, List.map_nil, c0, c1, c2, c3]
      decide
  · exact ⟨rfl, fun t ht => tris_in3 (by omega) (fun k hk => (hr k hk).1) t ht, tris_pos hr (by omega) h2, tris_sum hr (by omega) h2⟩
end Go.Proofs.Ytpdnaceggpdleaa
