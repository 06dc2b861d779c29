/- Layer 13, in numbers: which edges are parts of sides; what the law on edges asks. -/
import Derived.Test.YtpdnaceggpdleaaC4
namespace Go.Proofs.Ytpdnaceggpdleaa
set_option linter.unusedVariables false
set_option linter.unusedSimpArgs false
set_option linter.unnecessarySimpa false
/-- Is an edge a part of a side, from its first corner on? -/
def partB (r : Nat → Nat) (e : Edg) : Bool := (List.range 4).any fun k => (List.range (r k)).any fun i => decide (e = (outS k (r k) i, outS k (r k) (i + 1)))
theorem partB_iff {r : Nat → Nat} {e : Edg} : partB r e = true ↔ ∃ k, k < 4 ∧ InO k (r k) 0 e := by
  unfold partB InO
  simp only [List.any_eq_true, List.mem_range, decide_eq_true_eq]
  constructor
  · rintro ⟨k, h1, i, h2, h3⟩; exact ⟨k, h1, i, by omega, h2, h3⟩
  · rintro ⟨k, h1, i, _, h2, h3⟩; exact ⟨k, h1, i, h2, h3⟩
theorem partB_no {r : Nat → Nat} {e : Edg} (h : (∃ a b, e.1 = innS a b) ∨ ∃ a b, e.2 = innS a b) : partB r e = false := by
  cases hp : partB r e with
  | false => rfl
  | true =>
    obtain ⟨k, _, i, _, _, rfl⟩ := partB_iff.1 hp
    rcases h with ⟨a, b, h⟩ | ⟨a, b, h⟩
    · exact absurd h out_ne_inn
    · exact absurd (show outS k (r k) (i + 1) = innS a b from h) out_ne_inn
theorem partB_bes1 {r : Nat → Nat} {k t R : Nat} {x : Spt} : partB r (besS k t R, x) = false := partB_no (.inl (bes_inn k t R))
theorem partB_bes2 {r : Nat → Nat} {k t R : Nat} {x : Spt} : partB r (x, besS k t R) = false := partB_no (.inr (bes_inn k t R))
theorem partB_out {r : Nat → Nat} {k i : Nat} (hk : k < 4) (hi : i < r k) : partB r (outS k (r k) i, outS k (r k) (i + 1)) = true := partB_iff.2 ⟨k, hk, i, by omega, hi, rfl⟩
theorem upTo_count {α : Type} {f : Nat → List α} {p : α → Bool} {c : Nat → Nat} : ∀ n, (∀ i, i < n → (f i).countP p = c i) → (upTo f n).countP p = ((List.range n).map c).sum
  | 0, _ => by simp [upTo]
  | n + 1, h => by
    show (upTo f n ++ f n).countP p = _
    rw [List.countP_append, upTo_count n (fun i hi => h i (by omega)), h n (by omega), List.range_succ, List.map_append, List.sum_append]
    simp
theorem sqA_count (r : Nat → Nat) (a b : Nat) : ((sqA a b).flatMap edsS).countP (partB r) = 0 := by
  rw [List.countP_eq_zero]
  intro e he
  have h := mem_sqA.1 he
  have : partB r e = false := by
    rcases h with rfl | rfl | rfl | rfl | rfl | rfl <;> exact partB_no (.inl ⟨_, _, rfl⟩)
  rw [this]; simp
theorem sqs_count (r : Nat → Nat) (R : Nat) : ((sqRows R (R - 2)).flatMap edsS).countP (partB r) = 0 := by
  rw [List.countP_eq_zero]
  intro e he
  have h := InQ_inn (mem_sqRows.1 he)
  rw [partB_no (.inl h.1)]; simp
theorem stp_count (r : Nat → Nat) (k R : Nat) (hk : k < 4) : ∀ n i t, i ≤ r k → t ≤ R - 1 → leftS (r k) R i t = n → ((stpS k (r k) R n i t).flatMap edsS).countP (partB r) = r k - i
  | 0, i, t, hi, ht, hn => by
    unfold leftS at hn
    simp [stpS]; omega
  | n + 1, i, t, hi, ht, hn => by
    unfold stpS
    by_cases hg : goA (r k) R i t
    · rw [if_pos hg, eds_A]
      obtain ⟨h1, h2⟩ := left_A hg hn
      rw [List.countP_cons, List.countP_cons, List.countP_cons, stp_count r k R hk n (i + 1) t h2 ht h1, partB_out hk (by omega), partB_bes2, partB_bes1]
      simp; omega
    · rw [if_neg hg, eds_B]
      obtain ⟨h1, h2⟩ := left_B (not_goA hg hi ht hn) hn
      rw [List.countP_cons, List.countP_cons, List.countP_cons, stp_count r k R hk n i (t + 1) hi h2 h1]
      simp [partB_bes1, partB_bes2]
theorem edR_count {r : Nat → Nat} {R : Nat} (hR : 2 ≤ R) : (edR r R).countP (partB r) = r 0 + r 1 + r 2 + r 3 := by
  rw [edR_two hR, List.countP_append, sqs_count, upTo_count (c := fun k => r k) 4 (fun k hk => by
    have := stp_count r k R hk _ 0 1 (by omega) (by omega) rfl
    rw [Nat.sub_zero] at this
    exact this)]
  simp [List.range_succ]
  omega
/-- Each spot is an edge's first. -/
theorem used_all {r : Nat → Nat} {R : Nat} (hR : 2 ≤ R) (hr : ∀ k, k < 4 → 1 ≤ r k) {s : Spt} (hs : s ∈ spotsR r R) : ∃ u, (s, u) ∈ edR r R := by
  rcases mem_spots.1 hs with ⟨k, h1, rfl⟩ | ⟨k, i, h1, h2, h3, rfl⟩ | ⟨a, b, h1, h2, h3, h4, rfl⟩
  · exact ⟨_, (mem_edR hR).2 (.inr ⟨k, h1, strip_O (j := 0) hR (by have := hr k h1; omega)⟩)⟩
  · have h := strip_O (k := k) (r := r k) (R := R) (j := i) hR h3
    rw [out_mid h2 h3] at h
    exact ⟨_, (mem_edR hR).2 (.inr ⟨k, h1, h⟩)⟩
  · by_cases e : R = 2
    · have h := strip_first (k := 0) (r := r 0) (R := R) (hr 0 (by omega)) hR
      refine ⟨outS 0 (r 0) 0, (mem_edR hR).2 (.inr ⟨0, by omega, ?_⟩)⟩
      · have : innS a b = besS 0 1 R := by
          obtain rfl : a = 1 := by omega
          obtain rfl : b = 1 := by omega
          rfl
        rw [this]; exact h
    · by_cases ha : a + 1 < R
      · by_cases hb : b + 1 < R
        · exact ⟨_, (mem_edR hR).2 (.inl ⟨a, b, h1, ha, h3, hb, .inl rfl⟩)⟩
        · refine ⟨innS a (b - 1), (mem_edR hR).2 (.inl ⟨a, b - 1, h1, ha, by omega, by omega, ?_⟩)⟩
          rw [show innS a b = innS a (b - 1 + 1) by rw [show b - 1 + 1 = b by omega]]
          exact .inr (.inr (.inr (.inr (.inr rfl))))
      · by_cases hb : b + 1 < R
        · refine ⟨innS a (b + 1), (mem_edR hR).2 (.inl ⟨a - 1, b, by omega, by omega, h3, hb, ?_⟩)⟩
          rw [show innS a b = innS (a - 1 + 1) b by rw [show a - 1 + 1 = a by omega], show innS a (b + 1) = innS (a - 1 + 1) (b + 1) by rw [show a - 1 + 1 = a by omega]]
          exact .inr (.inl rfl)
        · refine ⟨innS (a - 1) (b - 1), (mem_edR hR).2 (.inl ⟨a - 1, b - 1, by omega, by omega, by omega, by omega, ?_⟩)⟩
          rw [show innS a b = innS (a - 1 + 1) (b - 1 + 1) by rw [show b - 1 + 1 = b by omega, show a - 1 + 1 = a by omega]]
          exact .inr (.inr (.inl rfl))
/-- An edge by the numbers of its spots. -/
abbrev NEd := Nat × Nat
def edsN (t : NTri) : List NEd := [(t.1, t.2.1), (t.2.1, t.2.2), (t.2.2, t.1)]
def numE (P : List Spt) (e : Edg) : NEd := (nof P e.1, nof P e.2)
theorem edsN_num (P : List Spt) (t : Tri) : edsN (num3 P t) = (edsS t).map (numE P) := rfl
theorem eds_num (P : List Spt) (l : List Tri) : (numT P l).flatMap edsN = (l.flatMap edsS).map (numE P) := by
  induction l with
  | nil => rfl
  | cons t l ih =>
    show edsN (num3 P t) ++ (numT P l).flatMap edsN = (edsS t ++ l.flatMap edsS).map (numE P)
    rw [List.map_append, ih, edsN_num]
/-- What the law on edges asks of spots and triangles. -/
structure TightP (r : Nat → Nat) (S : List Spt) (T : List NTri) : Prop where
  lt : ∀ e ∈ T.flatMap edsN, e.1 < S.length ∧ e.2 < S.length ∧ e.1 ≠ e.2
  nodup : (T.flatMap edsN).Nodup
  back : ∀ e ∈ T.flatMap edsN, ∀ a b, S[e.1]? = some a → S[e.2]? = some b → (partB r (a, b) = true ∧ (e.2, e.1) ∉ T.flatMap edsN) ∨ (partB r (a, b) = false ∧ (e.2, e.1) ∈ T.flatMap edsN)
  cnt : ((T.flatMap edsN).countP fun e => partB r (S.getD e.1 (0, 0, 0), S.getD e.2 (0, 0, 0))) = r 0 + r 1 + r 2 + r 3
  used : ∀ j, j < S.length → ∃ e ∈ T.flatMap edsN, e.1 = j
theorem nodup_map_inj {α β : Type} {f : α → β} : ∀ {l : List α}, l.Nodup → (∀ x ∈ l, ∀ y ∈ l, f x = f y → x = y) → (l.map f).Nodup
  | [], _, _ => List.nodup_nil
  | a :: l, h, hi => by
    rw [List.nodup_cons] at h
    rw [List.map_cons, List.nodup_cons]
    refine ⟨fun hm => ?_, nodup_map_inj h.2 (fun x hx y hy => hi x (List.mem_cons_of_mem _ hx) y (List.mem_cons_of_mem _ hy))⟩
    obtain ⟨b, hb, e⟩ := List.mem_map.1 hm
    have := hi b (List.mem_cons_of_mem _ hb) a List.mem_cons_self e
    subst this
    exact h.1 hb
theorem tris_in3 {r : Nat → Nat} {R : Nat} (hR : 2 ≤ R) (hr : ∀ k, k < 4 → 1 ≤ r k) : ∀ t ∈ trisR r R, in3 (spotsR r R) t := fun t ht => by
  unfold trisR at ht
  rw [if_neg (by omega)] at ht
  rcases List.mem_append.1 ht with h | h
  · unfold sqRows sqRow sqA sqS at h
    obtain ⟨b, hb, h⟩ := mem_upTo.1 h
    obtain ⟨a, ha, h⟩ := mem_upTo.1 h
    simp only [List.mem_cons, List.not_mem_nil, or_false] at h
    rcases h with rfl | rfl
    · exact ⟨inn_in (by omega) (by omega) (by omega) (by omega), inn_in (by omega) (by omega) (by omega) (by omega), inn_in (by omega) (by omega) (by omega) (by omega)⟩
    · exact ⟨inn_in (by omega) (by omega) (by omega) (by omega), inn_in (by omega) (by omega) (by omega) (by omega), inn_in (by omega) (by omega) (by omega) (by omega)⟩
  · unfold stripsS at h
    obtain ⟨k, hk, h⟩ := mem_upTo.1 h
    exact strip_in3 hk (hr k hk) hR t h
theorem edR_in {r : Nat → Nat} {R : Nat} (hR : 2 ≤ R) (hr : ∀ k, k < 4 → 1 ≤ r k) : ∀ e ∈ edR r R, e.1 ∈ spotsR r R ∧ e.2 ∈ spotsR r R := fun e he => by
  unfold edR at he
  obtain ⟨t, ht, h⟩ := List.mem_flatMap.1 he
  obtain ⟨h1, h2, h3⟩ := tris_in3 hR hr t ht
  unfold edsS at h
  simp only [List.mem_cons, List.not_mem_nil, or_false] at h
  rcases h with rfl | rfl | rfl
  · exact ⟨h1, h2⟩
  · exact ⟨h2, h3⟩
  · exact ⟨h3, h1⟩
theorem edR_ne {r : Nat → Nat} {R : Nat} (hR : 2 ≤ R) (hr : ∀ k, k < 4 → 1 ≤ r k) : ∀ e ∈ edR r R, e.1 ≠ e.2 := fun e he h => by
  rcases (mem_edR hR).1 he with h1 | ⟨k, hk, h1⟩
  · obtain ⟨a, b, _, _, _, _, h2⟩ := h1
    unfold InQ1 innS at h2
    rcases h2 with rfl | rfl | rfl | rfl | rfl | rfl <;> simp only [Prod.mk.injEq] at h <;> omega
  · rcases mem_strip_in (hr k hk) hk hR h1 with ⟨j, _, hj, rfl⟩ | ⟨u, _, hu, rfl⟩ | ⟨j, u, _, _, _, _, _, rfl⟩ | ⟨j, u, _, _, _, _, _, rfl⟩
    · have := out_inj (hr k hk) hk (show j ≤ r k by omega) (show j + 1 ≤ r k by omega) h; omega
    · have := bes_inj (show u + 1 ≤ R by omega) (show u ≤ R by omega) h; omega
    · exact bes_ne_out h
    · exact out_ne_bes h
theorem getD_nof {l : List Spt} {s d : Spt} (h : s ∈ l) : l.getD (nof l s) d = s := by
  rw [List.getD, nof_get h]; rfl
theorem tight_two {r : Nat → Nat} {R : Nat} (hR : 2 ≤ R) (hr : ∀ k, k < 4 → 1 ≤ r k) : TightP r (spotsR r R) (numT (spotsR r R) (trisR r R)) := by
  have hin := edR_in hR hr
  have he : (numT (spotsR r R) (trisR r R)).flatMap edsN = (edR r R).map (numE (spotsR r R)) := eds_num _ _
  have hinj : ∀ x ∈ edR r R, ∀ y : Edg, y.1 ∈ spotsR r R → y.2 ∈ spotsR r R → numE (spotsR r R) x = numE (spotsR r R) y → x = y := fun x hx y h1 h2 h => by
    obtain ⟨x1, x2⟩ := hin x hx
    unfold numE at h
    simp only [Prod.mk.injEq] at h
    exact Prod.ext (nof_inj x1 h1 h.1) (nof_inj x2 h2 h.2)
  refine ⟨?_, ?_, ?_, ?_, ?_⟩
  · rw [he]
    intro e h
    obtain ⟨x, hx, rfl⟩ := List.mem_map.1 h
    obtain ⟨x1, x2⟩ := hin x hx
    exact ⟨nof_lt x1, nof_lt x2, fun h => edR_ne hR hr x hx (nof_inj x1 x2 h)⟩
  · rw [he]
    exact nodup_map_inj (edR_nodup hR hr) (fun x hx y hy => hinj x hx y (hin y hy).1 (hin y hy).2)
  · rw [he]
    intro e h a b ha hb
    obtain ⟨x, hx, rfl⟩ := List.mem_map.1 h
    obtain ⟨x1, x2⟩ := hin x hx
    unfold numE at ha hb
    simp only at ha hb
    rw [nof_get x1] at ha
    rw [nof_get x2] at hb
    obtain rfl := Option.some.inj ha
    obtain rfl := Option.some.inj hb
    by_cases hp : partB r (x.1, x.2) = true
    · refine .inl ⟨hp, fun hm => ?_⟩
      obtain ⟨k, hk, hO⟩ := partB_iff.1 hp
      obtain ⟨y, hy, e⟩ := List.mem_map.1 hm
      have := hinj y hy (bck x) x2 x1 e
      subst this
      exact O_once hR hr hk hO hy
    · refine .inr ⟨by simpa using hp, ?_⟩
      rcases edR_back hR hr hx with ⟨k, hk, hO⟩ | h
      · exact absurd (partB_iff.2 ⟨k, hk, hO⟩) hp
      · exact List.mem_map.2 ⟨bck x, h, rfl⟩
  · rw [he, List.countP_map, ← edR_count hR]
    refine List.countP_congr fun x hx => ?_
    obtain ⟨x1, x2⟩ := hin x hx
    unfold numE
    simp only [Function.comp]
    rw [getD_nof x1, getD_nof x2]
  · intro j hj
    have hm := List.getElem_mem hj
    obtain ⟨u, hu⟩ := used_all hR hr hm
    rw [he]
    refine ⟨_, List.mem_map.2 ⟨_, hu, rfl⟩, ?_⟩
    exact nof_at (spots_nodup r R) (List.getElem?_eq_getElem hj)
theorem partB_ext {r s : Nat → Nat} (h : ∀ k, k < 4 → r k = s k) : partB r = partB s := by
  funext e
  unfold partB
  simp only [show List.range 4 = [0, 1, 2, 3] from rfl, List.any_cons, List.any_nil, h 0 (by omega), h 1 (by omega), h 2 (by omega), h 3 (by omega)]
theorem tight_one : TightP (fun _ => 1) (spotsW fun _ => 1) (trisW fun _ => 1) := by
  have e1 : spotsW (fun _ => 1) = [(1, 0, 0), (1, 1, 0), (1, 2, 0), (1, 3, 0)] := by decide +kernel
  have e2 : trisW (fun _ => 1) = [(0, 1, 2), (0, 2, 3)] := by decide +kernel
  rw [e1, e2]
  refine ⟨by decide +kernel, by decide +kernel, ?_, by decide +kernel, ?_⟩
  · intro e he a b ha hb
    have he2 : e ∈ [((0 : Nat), (1 : Nat)), (1, 2), (2, 0), (0, 2), (2, 3), (3, 0)] := he
    simp only [List.mem_cons, List.not_mem_nil, or_false] at he2
    rcases he2 with rfl | rfl | rfl | rfl | rfl | rfl <;> simp at ha hb <;> subst ha <;> subst hb <;> decide +kernel
  · intro j hj
    have hj4 : j < 4 := hj
    rcases four1 hj4 with rfl | rfl | rfl | rfl
    · exact ⟨(0, 1), by decide +kernel, rfl⟩
    · exact ⟨(1, 2), by decide +kernel, rfl⟩
    · exact ⟨(2, 0), by decide +kernel, rfl⟩
    · exact ⟨(3, 0), by decide +kernel, rfl⟩
theorem tight_any {r : Nat → Nat} (hr : ∀ k, k < 4 → 1 ≤ r k ∧ r k ≤ 16) : TightP r (spotsW r) (trisW r) := by
  obtain ⟨h1, h2⟩ := most_bd hr
  by_cases e : mxR r 4 = 1
  · have hr1 : ∀ k, k < 4 → r k = (fun _ => 1 : Nat → Nat) k := fun k hk => by
      have h3 := (hr k hk).1
      have h4 : r k ≤ mxR r 4 := by
        show r k ≤ max (max (max (max 0 (r 0)) (r 1)) (r 2)) (r 3)
        rcases four1 hk with rfl | rfl | rfl | rfl <;> omega
      show r k = 1
      omega
    have ht := tight_one
    rw [← spotsW_ext hr1, ← trisW_ext hr1] at ht
    exact ⟨ht.lt, ht.nodup, by rw [partB_ext hr1]; exact ht.back, by rw [partB_ext hr1, hr1 0 (by omega), hr1 1 (by omega), hr1 2 (by omega), hr1 3 (by omega)]; exact ht.cnt, ht.used⟩
  · exact tight_two (by omega) (fun k hk => (hr k hk).1)
end Go.Proofs.Ytpdnaceggpdleaa
