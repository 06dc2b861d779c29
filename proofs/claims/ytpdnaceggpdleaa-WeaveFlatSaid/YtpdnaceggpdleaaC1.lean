/- Layer 13, in numbers: all edges of a square's triangles. A region that draws its order: its operations read, or are calls that answer a value and leave what was there; one of them may make a block; the last ones, in one forced order, store. One walk in the order of the text serves every order. No program is imported. Blocks of the call's own under calls that leave them: stores go through to the block that they write. No program is imported. A block whose cells are all known, in worlds that go on. No program is imported. Regions held by a fact: an operation that is forced, by its value or its call. A region in any order whose operations may make blocks, and call what makes blocks: if what is known of each slot stays true in every later world, then behind the region it is known of all of them, whatever the order was. No program is imported. -/
import Derived.StillTail
import Derived.Laws.Tables
import Derived.Laws.Rows
import Derived.Deep.WholeRow
import Derived.LoopN
import Derived.Deep.DeepCutAuto
import Derived.Deep.RegionHeld3
import Derived.Test.YtpdnaceggpdleaaC0
namespace Go.Proofs.Ytpdnaceggpdleaa
set_option linter.unusedVariables false
set_option linter.unusedSimpArgs false
set_option linter.unnecessarySimpa false
/-- The edges of the two triangles of an inner square. -/
def InQ1 (a b : Nat) (e : Edg) : Prop :=
  e = (innS a b, innS (a + 1) b) ∨ e = (innS (a + 1) b, innS (a + 1) (b + 1)) ∨ e = (innS (a + 1) (b + 1), innS a b) ∨
  e = (innS a b, innS (a + 1) (b + 1)) ∨ e = (innS (a + 1) (b + 1), innS a (b + 1)) ∨ e = (innS a (b + 1), innS a b)
theorem sqA_eds (a b : Nat) : (sqA a b).flatMap edsS = [(innS a b, innS (a + 1) b), (innS (a + 1) b, innS (a + 1) (b + 1)), (innS (a + 1) (b + 1), innS a b), (innS a b, innS (a + 1) (b + 1)), (innS (a + 1) (b + 1), innS a (b + 1)), (innS a (b + 1), innS a b)] := rfl
theorem mem_sqA {a b : Nat} {e : Edg} : e ∈ (sqA a b).flatMap edsS ↔ InQ1 a b e := by
  rw [sqA_eds]
  unfold InQ1
  simp only [List.mem_cons, List.not_mem_nil, or_false]
def InQ (R : Nat) (e : Edg) : Prop := ∃ a b, 1 ≤ a ∧ a + 1 < R ∧ 1 ≤ b ∧ b + 1 < R ∧ InQ1 a b e
theorem mem_sqRow {b m : Nat} {e : Edg} : e ∈ (sqRow b m).flatMap edsS ↔ ∃ a, 1 ≤ a ∧ a ≤ m ∧ InQ1 a (b + 1) e := by
  unfold sqRow
  rw [upTo_map, mem_upTo]
  constructor
  · rintro ⟨i, h1, h2⟩; exact ⟨i + 1, by omega, by omega, mem_sqA.1 h2⟩
  · rintro ⟨a, h1, h2, h3⟩; exact ⟨a - 1, by omega, mem_sqA.2 (by rw [show a - 1 + 1 = a by omega]; exact h3)⟩
theorem mem_sqRows {R : Nat} {e : Edg} : e ∈ (sqRows R (R - 2)).flatMap edsS ↔ InQ R e := by
  unfold sqRows
  rw [upTo_map, mem_upTo]
  constructor
  · rintro ⟨i, h1, h2⟩
    obtain ⟨a, h3, h4, h5⟩ := mem_sqRow.1 h2
    exact ⟨a, i + 1, by omega, by omega, by omega, by omega, h5⟩
  · rintro ⟨a, b, h1, h2, h3, h4, h5⟩
    exact ⟨b - 1, by omega, mem_sqRow.2 ⟨a, by omega, by omega, by rw [show b - 1 + 1 = b by omega]; exact h5⟩⟩
theorem InQ1_inj {a b c d : Nat} {e : Edg} (h1 : InQ1 a b e) (h2 : InQ1 c d e) : a = c ∧ b = d := by
  unfold InQ1 innS at h1 h2
  rcases h1 with rfl | rfl | rfl | rfl | rfl | rfl <;> simp only [Prod.mk.injEq] at h2 <;> omega
theorem sqA_nodup (a b : Nat) : ((sqA a b).flatMap edsS).Nodup := by
  rw [sqA_eds]
  unfold innS
  simp
  omega
theorem sqRows_nodup (R : Nat) : ((sqRows R (R - 2)).flatMap edsS).Nodup := by
  unfold sqRows
  rw [upTo_map]
  refine upTo_nodup (fun i _ => ?_) (fun i j h _ x hx hy => ?_)
  · unfold sqRow
    rw [upTo_map]
    refine upTo_nodup (fun u _ => sqA_nodup _ _) (fun u v h _ x hx hy => ?_)
    have := InQ1_inj (mem_sqA.1 hx) (mem_sqA.1 hy)
    omega
  · obtain ⟨a, _, _, h1⟩ := mem_sqRow.1 hx
    obtain ⟨c, _, _, h2⟩ := mem_sqRow.1 hy
    have := InQ1_inj h1 h2
    omega
/-! Strips beside one another. -/
theorem four {j k : Nat} (h : j < k) (hk : k < 4) : (j = 0 ∧ k = 1) ∨ (j = 0 ∧ k = 2) ∨ (j = 0 ∧ k = 3) ∨ (j = 1 ∧ k = 2) ∨ (j = 1 ∧ k = 3) ∨ (j = 2 ∧ k = 3) := by omega
theorem four1 {k : Nat} (hk : k < 4) : k = 0 ∨ k = 1 ∨ k = 2 ∨ k = 3 := by omega
theorem OO_apart {j k rj rk R : Nat} (h : j < k) (hk : k < 4) (h1 : 1 ≤ rj) (h2 : 1 ≤ rk) {e : Edg} (a : InO j rj 0 e) (b : InO k rk 0 e) : False := by
  obtain ⟨i, _, hi, e1⟩ := a
  obtain ⟨u, _, hu, e2⟩ := b
  have e3 := congrArg Prod.fst (e1.symm.trans e2)
  simp only at e3
  rcases out_cases (k := j) h1 (Nat.le_of_lt hi) with ⟨h3, e4⟩ | ⟨h3, e4⟩ | ⟨h3, h3', e4⟩ <;> rcases out_cases (k := k) h2 (Nat.le_of_lt hu) with ⟨h5, e5⟩ | ⟨h5, e5⟩ | ⟨h5, h5', e5⟩ <;> rw [e4, e5] at e3 <;> simp only [Prod.mk.injEq] at e3 <;> omega
theorem II_apart {j k R : Nat} (h : j < k) (hk : k < 4) (hR : 2 ≤ R) {e : Edg} (a : InI j R 1 e) (b : InI k R 1 e) : False := by
  obtain ⟨i, hi1, hi, e1⟩ := a
  obtain ⟨u, hu1, hu, e2⟩ := b
  have e3 := e1.symm.trans e2
  rcases four h hk with ⟨rfl, rfl⟩ | ⟨rfl, rfl⟩ | ⟨rfl, rfl⟩ | ⟨rfl, rfl⟩ | ⟨rfl, rfl⟩ | ⟨rfl, rfl⟩ <;> simp [besS, innS, Prod.mk.injEq] at e3 <;> omega
theorem UU_apart {j k rj rk R i i' u u' : Nat} (h : j < k) (hk : k < 4) (hR : 2 ≤ R) (h1 : 1 ≤ rj) (h2 : 1 ≤ rk) (hi : i ≤ rj) (hi' : i' ≤ rk) (hu : u ≤ R - 1) (hu1 : 1 ≤ u) (hu' : u' ≤ R - 1) (hu1' : 1 ≤ u')
    (hs : (i + u < rj + (R - 1) ∧ i' + u' < rk + (R - 1)) ∨ (1 < i + u ∧ 1 < i' + u')) (e1 : besS j u R = besS k u' R) (e2 : outS j rj i = outS k rk i') : False := by
  have key : (i = 0 ∧ i' = rk ∧ j = (k + 1) % 4) ∨ (i = rj ∧ i' = 0 ∧ k = (j + 1) % 4) := by
    rcases out_cases (k := j) h1 hi with ⟨h3, e4⟩ | ⟨h3, e4⟩ | ⟨h3, h3', e4⟩ <;> rcases out_cases (k := k) h2 hi' with ⟨h5, e5⟩ | ⟨h5, e5⟩ | ⟨h5, h5', e5⟩ <;> rw [e4, e5] at e2 <;> simp only [Prod.mk.injEq] at e2 <;> omega
  rcases four h hk with ⟨rfl, rfl⟩ | ⟨rfl, rfl⟩ | ⟨rfl, rfl⟩ | ⟨rfl, rfl⟩ | ⟨rfl, rfl⟩ | ⟨rfl, rfl⟩ <;> simp [besS, innS, Prod.mk.injEq] at e1 <;> omega
theorem strips_apart {j k rj rk R : Nat} (h : j < k) (hk : k < 4) (h1 : 1 ≤ rj) (h2 : 1 ≤ rk) (hR : 2 ≤ R) {e : Edg} (a : InS j rj R 0 1 e) (b : InS k rk R 0 1 e) : False := by
  rcases a with a | a | ⟨i, u, a1, a2, a3, a4, a5, a6⟩ | ⟨i, u, a1, a2, a3, a4, a5, a6⟩ <;> rcases b with b | b | ⟨i', u', b1, b2, b3, b4, b5, b6⟩ | ⟨i', u', b1, b2, b3, b4, b5, b6⟩
  · exact OO_apart (R := R) h hk h1 h2 a b
  · obtain ⟨_, _, _, ea⟩ := a; obtain ⟨_, _, _, eb⟩ := b; exact fst_ob (ea.symm.trans eb)
  · obtain ⟨_, _, _, ea⟩ := a; exact fst_ob (ea.symm.trans b6)
  · obtain ⟨_, _, _, ea⟩ := a; exact snd_ob (ea.symm.trans b6)
  · obtain ⟨_, _, _, ea⟩ := a; obtain ⟨_, _, _, eb⟩ := b; exact fst_bo (ea.symm.trans eb)
  · exact II_apart h hk hR a b
  · obtain ⟨_, _, _, ea⟩ := a; exact snd_bo (ea.symm.trans b6)
  · obtain ⟨_, _, _, ea⟩ := a; exact fst_bo (ea.symm.trans b6)
  · obtain ⟨_, _, _, eb⟩ := b; exact fst_bo (a6.symm.trans eb)
  · obtain ⟨_, _, _, eb⟩ := b; exact snd_ob (a6.symm.trans eb)
  · exact UU_apart h hk hR h1 h2 a3 b3 a4 (by omega) b4 (by omega) (.inl ⟨a5, b5⟩) (congrArg Prod.fst (a6.symm.trans b6)) (congrArg Prod.snd (a6.symm.trans b6))
  · exact fst_bo (a6.symm.trans b6)
  · obtain ⟨_, _, _, eb⟩ := b; exact snd_bo (a6.symm.trans eb)
  · obtain ⟨_, _, _, eb⟩ := b; exact fst_ob (a6.symm.trans eb)
  · exact fst_ob (a6.symm.trans b6)
  · exact UU_apart h hk hR h1 h2 a3 b3 a4 (by omega) b4 (by omega) (.inr ⟨by omega, by omega⟩) (congrArg Prod.snd (a6.symm.trans b6)) (congrArg Prod.fst (a6.symm.trans b6))
theorem InQ_inn {R : Nat} {e : Edg} (h : InQ R e) : (∃ a b, e.1 = innS a b) ∧ ∃ a b, e.2 = innS a b := by
  obtain ⟨a, b, _, _, _, _, h⟩ := h
  rcases h with rfl | rfl | rfl | rfl | rfl | rfl <;> exact ⟨⟨_, _, rfl⟩, ⟨_, _, rfl⟩⟩
theorem QI_apart {k R : Nat} (hk : k < 4) {e : Edg} (h : InQ R e) (b : InI k R 1 e) : False := by
  obtain ⟨a, c, h1, h2, h3, h4, h5⟩ := h
  obtain ⟨u, hu1, hu, e2⟩ := b
  unfold InQ1 at h5
  rw [e2] at h5
  rcases four1 hk with rfl | rfl | rfl | rfl <;> simp [besS, innS, Prod.mk.injEq] at h5 <;> omega
theorem QS_apart {k rk R : Nat} (hk : k < 4) {e : Edg} (h : InQ R e) (b : InS k rk R 0 1 e) : False := by
  obtain ⟨⟨a1, a2, ha⟩, ⟨a3, a4, hb⟩⟩ := InQ_inn h
  rcases b with ⟨j, _, _, e2⟩ | b | ⟨i', u', b1, b2, b3, b4, b5, e2⟩ | ⟨i', u', b1, b2, b3, b4, b5, e2⟩
  · rw [e2] at ha; exact out_ne_inn ha
  · exact QI_apart hk h b
  · rw [e2] at hb; exact out_ne_inn hb
  · rw [e2] at ha; exact out_ne_inn ha
theorem mem_strip_in {k r R : Nat} (hr : 1 ≤ r) (hk : k < 4) (hR : 2 ≤ R) {e : Edg} (h : e ∈ (stripS k r R).flatMap edsS) : InS k r R 0 1 e :=
  stp_in k r R hr hk _ 0 1 (by omega) (by omega) rfl e h
def edR (r : Nat → Nat) (R : Nat) : List Edg := (trisR r R).flatMap edsS
theorem edR_two {r : Nat → Nat} {R : Nat} (hR : 2 ≤ R) : edR r R = (sqRows R (R - 2)).flatMap edsS ++ upTo (fun k => (stripS k (r k) R).flatMap edsS) 4 := by
  unfold edR trisR
  rw [if_neg (by omega), List.flatMap_append]
  unfold stripsS
  rw [upTo_map]
theorem mem_edR {r : Nat → Nat} {R : Nat} (hR : 2 ≤ R) {e : Edg} : e ∈ edR r R ↔ InQ R e ∨ ∃ k, k < 4 ∧ e ∈ (stripS k (r k) R).flatMap edsS := by
  rw [edR_two hR, List.mem_append, mem_sqRows, mem_upTo]
theorem edR_nodup {r : Nat → Nat} {R : Nat} (hR : 2 ≤ R) (hr : ∀ k, k < 4 → 1 ≤ r k) : (edR r R).Nodup := by
  rw [edR_two hR, List.nodup_append]
  refine ⟨sqRows_nodup R, upTo_nodup (fun k hk => ?_) (fun j k h hk e h1 h2 => ?_), fun x hx y hy e => ?_⟩
  · exact stp_nodup k (r k) R (hr k hk) hk _ 0 1 (by omega) (by omega) rfl
  · exact strips_apart h hk (hr j (by omega)) (hr k hk) hR (mem_strip_in (hr j (by omega)) (by omega) hR h1) (mem_strip_in (hr k hk) hk hR h2)
  · subst e
    obtain ⟨k, hk, h2⟩ := mem_upTo.1 hy
    exact QS_apart hk (mem_sqRows.1 hx) (mem_strip_in (hr k hk) hk hR h2)
/-! Back. -/
theorem strip_some {k r R : Nat} (hr : 1 ≤ r) (hR : 2 ≤ R) : ∃ n, leftS r R 0 1 = n + 1 := ⟨leftS r R 0 1 - 1, by unfold leftS; omega⟩
theorem strip_first {k r R : Nat} (hr : 1 ≤ r) (hR : 2 ≤ R) : (besS k 1 R, outS k r 0) ∈ (stripS k r R).flatMap edsS := by
  obtain ⟨n, e⟩ := strip_some (k := k) hr hR
  unfold stripS; rw [e]; exact stp_first k r R n 0 1
theorem strip_last {k r R : Nat} (hr : 1 ≤ r) (hR : 2 ≤ R) : (outS k r r, besS k (R - 1) R) ∈ (stripS k r R).flatMap edsS := by
  obtain ⟨n, e⟩ := strip_some (k := k) hr hR
  unfold stripS; rw [e]; exact stp_last k r R n 0 1 (by omega) (by omega) e
theorem strip_O {k r R j : Nat} (hR : 2 ≤ R) (hj : j < r) : (outS k r j, outS k r (j + 1)) ∈ (stripS k r R).flatMap edsS :=
  stp_O k r R _ 0 1 (by omega) (by omega) rfl j (by omega) hj
theorem strip_I {k r R u : Nat} (hR : 2 ≤ R) (h1 : 1 ≤ u) (h2 : u < R - 1) : (besS k (u + 1) R, besS k u R) ∈ (stripS k r R).flatMap edsS :=
  stp_I k r R _ 0 1 (by omega) (by omega) rfl u h1 h2
theorem bes_turn {k R : Nat} (hk : k < 4) (hR : 2 ≤ R) : besS k (R - 1) R = besS ((k + 1) % 4) 1 R := by
  rcases four1 hk with rfl | rfl | rfl | rfl <;> simp [besS, innS] <;> omega
theorem Q_back {r : Nat → Nat} {R : Nat} (hR : 2 ≤ R) {e : Edg} (h : InQ R e) : InQ R (bck e) ∨ ∃ k, k < 4 ∧ InI k R 1 (bck e) := by
  obtain ⟨a, b, h1, h2, h3, h4, h5⟩ := h
  rcases h5 with rfl | rfl | rfl | rfl | rfl | rfl
  · by_cases h : b = 1
    · subst h
      exact .inr ⟨0, by omega, a, h1, by omega, rfl⟩
    · exact .inl ⟨a, b - 1, h1, h2, by omega, by omega, .inr (.inr (.inr (.inr (.inl (by unfold bck; rw [show b - 1 + 1 = b by omega])))))⟩
  · by_cases h : a + 1 = R - 1
    · exact .inr ⟨1, by omega, b, h3, by omega, by unfold bck besS; simp [h]⟩
    · exact .inl ⟨a + 1, b, by omega, by omega, h3, h4, .inr (.inr (.inr (.inr (.inr rfl))))⟩
  · exact .inl ⟨a, b, h1, h2, h3, h4, .inr (.inr (.inr (.inl rfl)))⟩
  · exact .inl ⟨a, b, h1, h2, h3, h4, .inr (.inr (.inl rfl))⟩
  · by_cases h : b + 1 = R - 1
    · exact .inr ⟨2, by omega, R - (a + 1), by omega, by omega, by
        unfold bck besS
        simp only [h, show R - (R - (a + 1)) = a + 1 by omega, show R - (R - (a + 1) + 1) = a by omega]
        rfl⟩
    · exact .inl ⟨a, b + 1, h1, h2, by omega, by omega, .inl rfl⟩
  · by_cases h : a = 1
    · subst h
      exact .inr ⟨3, by omega, R - (b + 1), by omega, by omega, by
        unfold bck besS
        simp only [show R - (R - (b + 1)) = b + 1 by omega, show R - (R - (b + 1) + 1) = b by omega]
        rfl⟩
    · exact .inl ⟨a - 1, b, by omega, by omega, h3, h4, .inr (.inl (by unfold bck; rw [show a - 1 + 1 = a by omega]))⟩
theorem I_back {k R : Nat} (hk : k < 4) (hR : 2 ≤ R) {e : Edg} (h : InI k R 1 e) : InQ R (bck e) := by
  obtain ⟨u, h1, h2, rfl⟩ := h
  rcases four1 hk with rfl | rfl | rfl | rfl
  · exact ⟨u, 1, h1, by omega, by omega, by omega, .inl rfl⟩
  · exact ⟨R - 2, u, by omega, by omega, h1, by omega, .inr (.inl (by unfold bck besS; rw [show R - 2 + 1 = R - 1 by omega]; rfl))⟩
  · exact ⟨R - u - 1, R - 2, by omega, by omega, by omega, by omega, .inr (.inr (.inr (.inr (.inl (by unfold bck besS; rw [show R - 2 + 1 = R - 1 by omega, show R - u - 1 + 1 = R - u by omega, show R - (u + 1) = R - u - 1 by omega]; rfl)))))⟩
  · exact ⟨1, R - u - 1, by omega, by omega, by omega, by omega, .inr (.inr (.inr (.inr (.inr (by unfold bck besS; rw [show R - u - 1 + 1 = R - u by omega, show R - (u + 1) = R - u - 1 by omega]; rfl)))))⟩
theorem edR_back {r : Nat → Nat} {R : Nat} (hR : 2 ≤ R) (hr : ∀ k, k < 4 → 1 ≤ r k) {e : Edg} (h : e ∈ edR r R) : (∃ k, k < 4 ∧ InO k (r k) 0 e) ∨ bck e ∈ edR r R := by
  rcases (mem_edR hR).1 h with h | ⟨k, hk, h⟩
  · rcases Q_back (r := r) hR h with h | ⟨k, hk, u, h1, h2, h3⟩
    · exact .inr ((mem_edR hR).2 (.inl h))
    · exact .inr ((mem_edR hR).2 (.inr ⟨k, hk, by rw [h3]; exact strip_I hR h1 h2⟩))
  · rcases stp_back k (r k) R (hr k hk) hk _ 0 1 (by omega) (by omega) rfl e h with h | h | h | h | h
    · exact .inl ⟨k, hk, h⟩
    · exact .inr ((mem_edR hR).2 (.inl (I_back hk hR h)))
    · refine .inr ((mem_edR hR).2 (.inr ⟨(k + 3) % 4, by omega, ?_⟩))
      have h1 := strip_last (k := (k + 3) % 4) (hr ((k + 3) % 4) (by omega)) hR
      rw [bes_turn (by omega) hR, out_end (hr _ (by omega)), show ((k + 3) % 4 + 1) % 4 = k by omega] at h1
      rw [h]
      exact h1
    · refine .inr ((mem_edR hR).2 (.inr ⟨(k + 1) % 4, by omega, ?_⟩))
      have h1 := strip_first (k := (k + 1) % 4) (hr ((k + 1) % 4) (by omega)) hR
      rw [h, bes_turn hk hR, out_end (hr k hk)]
      exact h1
    · exact .inr ((mem_edR hR).2 (.inr ⟨k, hk, h⟩))
theorem O_once {r : Nat → Nat} {R : Nat} (hR : 2 ≤ R) (hr : ∀ k, k < 4 → 1 ≤ r k) {e : Edg} {k : Nat} (hk : k < 4) (h : InO k (r k) 0 e) : bck e ∉ edR r R := by
  obtain ⟨i, _, hi, rfl⟩ := h
  intro hm
  rcases (mem_edR hR).1 hm with h | ⟨j, hj, h⟩
  · obtain ⟨⟨a, b, h⟩, _⟩ := InQ_inn h
    exact out_ne_inn (show outS k (r k) (i + 1) = innS a b from h)
  · rcases mem_strip_in (hr j hj) hj hR h with ⟨u, _, hu, e⟩ | ⟨u, _, _, e⟩ | ⟨_, _, _, _, _, _, _, e⟩ | ⟨_, _, _, _, _, _, _, e⟩
    · have e1 := congrArg Prod.fst e
      have e2 := congrArg Prod.snd e
      simp only [bck] at e1 e2
      have h1 := hr k hk
      have h2 := hr j hj
      rcases out_cases (k := k) h1 (show i + 1 ≤ r k by omega) with ⟨h3, e4⟩ | ⟨h3, e4⟩ | ⟨h3, h3', e4⟩ <;> rcases out_cases (k := j) h2 (Nat.le_of_lt hu) with ⟨h5, e5⟩ | ⟨h5, e5⟩ | ⟨h5, h5', e5⟩ <;> rw [e4, e5] at e1 <;> simp only [Prod.mk.injEq] at e1 <;> (try omega)
      · rcases out_cases (k := k) h1 (Nat.le_of_lt hi) with ⟨h6, e6⟩ | ⟨h6, e6⟩ | ⟨h6, h6', e6⟩ <;> rcases out_cases (k := j) h2 (show u + 1 ≤ r j by omega) with ⟨h7, e7⟩ | ⟨h7, e7⟩ | ⟨h7, h7', e7⟩ <;> rw [e6, e7] at e2 <;> simp only [Prod.mk.injEq] at e2 <;> omega
      · obtain rfl : k = j := by omega
        have := out_inj h1 hk (by omega) (by omega) e2
        omega
    · exact fst_ob (show (outS k (r k) (i + 1), outS k (r k) i) = _ from e)
    · exact fst_ob (show (outS k (r k) (i + 1), outS k (r k) i) = _ from e)
    · exact snd_ob e
end Go.Proofs.Ytpdnaceggpdleaa
namespace Go.Proofs.Ytpdnaceggpdleaa
open Go.RowKit
set_option linter.unusedVariables false
set_option linter.unusedSimpArgs false
def More.none_ : More := ⟨fun w => w, fun w => Below.refl _ _⟩
theorem grow_none (w : World) : grow w More.none_ = w := rfl
section
variable {P : Program} {ops : Array Oper} {w : World} {md : Region.Mode}
/-- From wherever the region has come, the operation answers v and leaves what was there. -/
def SureAt (P : Program) (o : Oper) (a : Act) (w : World) (v : Value) : Prop := ∀ x : More, o.quietAt P a (fun u => ∃ y, u = grow (grow w x) y) (grow w x) v
def Sure (P : Program) (ops : Array Oper) (w : World) (o : Oper) (v : Value) (a : Act) : Prop :=
  (Region.wanted o (yielded ops a.tmps) = true ∧ SureAt P o a w v) ∨ (Region.wanted o (yielded ops a.tmps) = false ∧ v = undef)
theorem Sure.of_same {o : Oper} {v : Value} {a a' : Act} (h : Sure P ops w o v a) (he : execOp a'.eval o = execOp a.eval o) (hw : Region.wanted o (yielded ops a'.tmps) = Region.wanted o (yielded ops a.tmps)) : Sure P ops w o v a' := by
  unfold Sure SureAt Oper.quietAt at *
  rw [he, hw]
  exact h
/-- What another operation, apart from it, has left makes no difference. -/
theorem Sure.put {o oj : Oper} {v u : Value} {a : Act} (h : Sure P ops w o v a) (hs : ∀ cs b, o.op ≠ .select cs b) (hd : ∀ d, oj.dst = some d → d ∉ o.looksAt ops) : Sure P ops w o v (a.put oj.dst u) :=
  h.of_same (execOp_put o hs a oj.dst u hd) (wanted_put o a oj.dst u hd)
theorem Sure.unput {o oj : Oper} {v u : Value} {a : Act} (h : Sure P ops w o v (a.put oj.dst u)) (hs : ∀ cs b, o.op ≠ .select cs b) (hd : ∀ d, oj.dst = some d → d ∉ o.looksAt ops) : Sure P ops w o v a :=
  h.of_same (execOp_put o hs a oj.dst u hd).symm (wanted_put o a oj.dst u hd).symm
def sureOp (P : Program) (ops : Array Oper) (w : World) (i : Nat) (K : Act → Prop) (a : Act) : Prop := ∃ o v, ops[i]? = some o ∧ Sure P ops w o v a ∧ K (a.put o.dst v)
/-- The one block that the region makes: its place in the region, its slot. -/
def pt (w : World) (x : More) : Value := .pointer (some ⟨(grow w x).heap.size, 0, none⟩)
/-- Where the region may be: nothing made yet; or the block made behind what x tells. -/
def At (w : World) (obj : Obj) : Option More → World → Prop
  | none, u => ∃ x, u = grow w x
  | some x, u => ∃ y, u = grow ((grow w x).alloc obj) y
theorem At.grows {obj : Obj} {s : Option More} {u : World} (h : At w obj s u) : ∃ x, u = grow w x := by
  cases s with
  | none => exact h
  | some x =>
    obtain ⟨y, rfl⟩ := h
    exact grow_of (bel_grow (bel_alloc (bel_grow (Below.refl _ _) x) obj) y)
theorem At.on {obj : Obj} {s : Option More} {u : World} (h : At w obj s u) (y : More) : At w obj s (grow u y) := by
  cases s with
  | none => obtain ⟨x, rfl⟩ := h; exact ⟨x.then y, rfl⟩
  | some x => obtain ⟨z, rfl⟩ := h; exact ⟨z.then y, rfl⟩
variable {n N : Nat} {alc : Option Tmp} {obj : Obj} {L : Option More → Array Bool → Act → Prop}
def anyU (P : Program) (md : Region.Mode) (ops : Array Oper) (w : World) (n : Nat) (alc : Option Tmp) (L : Option More → Array Bool → Act → Prop) : Nat → Option More → Array Bool → Act → Prop
  | 0, s, listed, a => L s listed a
  | f + 1, s, listed, a => Region.ready md ops listed ≠ [] ∧ ∀ i ∈ Region.ready md ops listed,
      (i < n ∧ sureOp P ops w i (anyU P md ops w n alc L f s (listed.setIfInBounds i true)) a) ∨
      (i = n ∧ s = none ∧ ∃ d, alc = some d ∧ ∀ x, anyU P md ops w n alc L f (some x) (listed.setIfInBounds i true) (a.put (some d) (pt w x)))
/-- What the block's making does. -/
def Makes (P : Program) (ops : Array Oper) (n : Nat) (alc : Option Tmp) (obj : Obj) : Prop :=
  ∀ d, alc = some d → ∃ o, ops[n]? = some o ∧ o.dst = some d ∧ o.guard = none ∧ ∀ (a : Act) (u : World), (execOp a.eval o).run P u = .ok (.value (.pointer (some ⟨u.heap.size, 0, none⟩))) (u.alloc obj)
theorem any_sound {g : Nat} {Q' : Exit → Act → World → Prop} (hm : Makes P ops n alc obj) (hL : ∀ s listed a u, At w obj s u → L s listed a → wpAny P md ops Q' g listed a u) :
    ∀ (f : Nat) (s : Option More) (listed : Array Bool) (a : Act) (u : World), At w obj s u → anyU P md ops w n alc L f s listed a → wpAny P md ops Q' (f + g) listed a u
  | 0, s, listed, a, u, hu, h => by rw [Nat.zero_add]; exact hL _ _ _ _ hu h
  | f + 1, s, listed, a, u, hu, h => by
    rw [show f + 1 + g = (f + g) + 1 by omega]
    refine ⟨fun h0 => absurd h0 h.1, fun i hi => ?_⟩
    rcases h.2 i hi with ⟨_, o, v, ho, hy, hk⟩ | ⟨hin, hsn, d, hd, hk⟩
    · unfold wpOp
      simp only [ho]
      rcases hy with ⟨hw, hv⟩ | ⟨hw, rfl⟩
      · rw [if_pos hw]
        left
        obtain ⟨x, rfl⟩ := hu.grows
        have h3 := hv x
        unfold Oper.quietAt at h3
        unfold Oper.wp
        generalize (execOp a.eval o).run P (grow w x) = r at *
        cases r with
        | ok nx w' =>
          cases nx <;> simp only [Oper.quietUpon] at h3 <;> simp only [Oper.upon]
          case value u' =>
            obtain ⟨e1, e2⟩ := h3
            rw [e1, e2]
            exact any_sound hm hL f _ _ _ _ hu hk
          case skip =>
            obtain ⟨e1, e2⟩ := h3
            rw [e1, ← e2]
            exact any_sound hm hL f _ _ _ _ hu hk
          case enter fn args =>
            obtain ⟨e1, hc⟩ := h3
            rw [e1]
            exact hc.mono fun e w'' ⟨he, y, hy⟩ => by
              subst he hy
              exact any_sound hm hL f _ _ _ _ (hu.on y) hk
        | halt x w' => simp only [Oper.quietUpon] at h3
      · rw [if_neg (by rw [hw]; exact Bool.false_ne_true)]
        exact any_sound hm hL f _ _ _ _ hu hk
    · obtain ⟨o, ho, hdst, hg, hrun⟩ := hm d hd
      rw [hsn] at hu
      obtain ⟨x, hux⟩ := hu
      unfold wpOp
      rw [hin] at hk ⊢
      simp only [ho]
      rw [if_pos (by simp [Region.wanted, hg])]
      left
      unfold Oper.wp
      rw [hrun]
      simp only [Oper.upon, hdst]
      rw [hux]
      exact any_sound hm hL f (some x) _ _ _ ⟨More.none_, rfl⟩ (hk x)
theorem any_first {i : Nat} {oi : Oper} {v : Value} (hm : Makes P ops n alc obj) (hi : ops[i]? = some oi) (hsel : ∀ (j : Nat) (o : Oper) cs b, ops[j]? = some o → o.op ≠ .select cs b) (hin : i < n) (hnN : n ≤ N) (hN : ∀ d, alc = some d → N = n + 1)
    (hs : Region.sinkB md ops N = true) (hc : Region.chainB md ops N = true) (hNs : N < ops.size) (hdone : ∀ s listed a, L s listed a → ∀ j ∈ Region.ready md ops listed, N ≤ j) :
    ∀ (f : Nat) (s : Option More) (listed : Array Bool) (a : Act), HeadInv md ops N listed →
      (∀ j oj, ops[j]? = some oj → j ≠ i → listed.getD j true = false → (∀ e ∈ oj.after, Region.binds md e = true → e.on ≠ i) → oi.apart ops oj = true) →
      i ∈ Region.ready md ops listed → Sure P ops w oi v a →
      anyU P md ops w n alc L f s (listed.setIfInBounds i true) (a.put oi.dst v) → anyU P md ops w n alc L (f + 1) s listed a := by
  intro f
  induction f with
  | zero =>
    intro s listed a inv _ hr hy H
    have hun := (mem_ready.1 hr).1
    refine ⟨fun h => (by rw [h] at hr; cases hr), fun j hj => ?_⟩
    have hjn : j < N := by
      rcases Nat.lt_or_ge j N with h | h
      · exact h
      · exact absurd hj (tail_waits hs hc hNs inv _ i rfl (by omega) hun j h)
    by_cases hji : j = i
    · subst hji; exact .inl ⟨hin, oi, v, hi, hy, H⟩
    · have := hdone _ _ _ H j (ready_mono hj hji)
      omega
  | succ f ih =>
    intro s listed a inv hfree hr hy H
    have hun := (mem_ready.1 hr).1
    refine ⟨fun h => (by rw [h] at hr; cases hr), fun j hj => ?_⟩
    have hjn : j < N := by
      rcases Nat.lt_or_ge j N with h | h
      · exact h
      · exact absurd hj (tail_waits hs hc hNs inv _ i rfl (by omega) hun j h)
    by_cases hji : j = i
    · subst hji; exact .inl ⟨hin, oi, v, hi, hy, H⟩
    · obtain ⟨hjun, oj, hoj, hall⟩ := mem_ready.1 hj
      have hnot : ∀ e ∈ oj.after, Region.binds md e = true → e.on ≠ i := fun e he hb heq => by
        have h1 := hall e he hb
        rw [heq, getD_both hun] at h1
        cases h1
      obtain ⟨p1, p2, p3⟩ := Oper.apart_spec (hfree j oj hoj hji hjun hnot)
      have hfree' : ∀ k ok, ops[k]? = some ok → k ≠ i → (listed.setIfInBounds j true).getD k true = false →
          (∀ e ∈ ok.after, Region.binds md e = true → e.on ≠ i) → oi.apart ops ok = true := fun k ok hk hki hun' hno => by
        refine hfree k ok hk hki ?_ hno
        by_cases hjk : j = k
        · subst hjk; exact hjun
        · rw [getD_set_ne true hjk] at hun'; exact hun'
      have go : ∀ (s' : Option More) (u : Value), anyU P md ops w n alc L f s' ((listed.setIfInBounds i true).setIfInBounds j true) ((a.put oi.dst v).put oj.dst u) →
          anyU P md ops w n alc L (f + 1) s' (listed.setIfInBounds j true) (a.put oj.dst u) := fun s' u h => by
        refine ih s' (listed.setIfInBounds j true) (a.put oj.dst u) (inv.set hj hjn) hfree' (ready_mono hr (Ne.symm hji)) (hy.put (fun cs b => hsel i oi cs b hi) p3) ?_
        rw [Array.setIfInBounds_comm _ _ hji, ← Act.put_comm a v u p2]
        exact h
      rcases H.2 j (ready_mono hj hji) with ⟨hj2, oj', u, hoj', hyj, hk⟩ | ⟨hj2, hs2, d, hd, hk⟩
      · obtain rfl : oj = oj' := Option.some.inj (hoj.symm.trans hoj')
        exact .inl ⟨hj2, oj, u, hoj, hyj.unput (fun cs b => hsel j oj cs b hoj) p1, go s u hk⟩
      · obtain ⟨o, ho, hdst, _, _⟩ := hm d hd
        subst hj2
        obtain rfl : oj = o := Option.some.inj (hoj.symm.trans ho)
        refine .inr ⟨rfl, hs2, d, hd, fun x => ?_⟩
        have := go (some x) (pt w x)
        rw [hdst] at this
        exact this (hk x)
/-! the order of the text -/
def lexH (md : Region.Mode) (ops : Array Oper) (fin : Array Bool → Bool) : Nat → Nat → Array Bool → Bool
  | 0, _, listed => fin listed
  | f + 1, k, listed => (Region.ready md ops listed).contains k && Region.free md ops listed k && lexH md ops fin f (k + 1) (listed.setIfInBounds k true)
/-- The walk with one value for each operation. -/
def sureL (P : Program) (ops : Array Oper) (w : World) (Q : Act → Prop) : List Oper → Act → Prop
  | [], a => Q a
  | o :: rest, a => ∃ v, Sure P ops w o v a ∧ sureL P ops w Q rest (a.put o.dst v)
theorem any_lex {F : Nat} {fin : Array Bool → Bool} {Q : Act → Prop} (hm : Makes P ops n alc obj) (hsel : Region.noSelect ops = true) (hnN : n ≤ N) (hN : ∀ d, alc = some d → N = n + 1)
    (hs : Region.sinkB md ops N = true) (hc : Region.chainB md ops N = true) (hNs : N < ops.size) (hdone : ∀ s listed a, L s listed a → ∀ j ∈ Region.ready md ops listed, N ≤ j)
    (hfin : ∀ listed a, HeadInv md ops N listed → fin listed = true → Q a → anyU P md ops w n alc L F none listed a) :
    ∀ (l : List Oper) (k : Nat) (listed : Array Bool) (a : Act), (∀ j, j < l.length → l[j]? = ops[k + j]?) → k + l.length = n → HeadInv md ops N listed →
    lexH md ops fin l.length k listed = true → sureL P ops w Q l a → anyU P md ops w n alc L (l.length + F) none listed a
  | [], k, listed, a, _, hk, inv, hB, h => by
    simp only [List.length_nil, Nat.zero_add]
    exact hfin listed a inv (by simpa [lexH] using hB) h
  | o :: l, k, listed, a, hl, hk, inv, hB, h => by
    have h0 : ops[k]? = some o := by simpa using (hl 0 (by simp)).symm
    simp only [List.length_cons, lexH, Bool.and_eq_true] at hB
    obtain ⟨⟨hr, hf⟩, hB'⟩ := hB
    have hkn : k < n := by simp only [List.length_cons] at hk; omega
    have hr' : k ∈ Region.ready md ops listed := by simpa using hr
    obtain ⟨v, hy, hK⟩ := h
    rw [show (o :: l).length + F = (l.length + F) + 1 by simp only [List.length_cons]; omega]
    exact any_first hm h0 (Region.noSelect_spec hsel) hkn hnN hN hs hc hNs hdone (l.length + F) none listed a inv (Region.free_spec h0 hf) hr' hy
      (any_lex hm hsel hnN hN hs hc hNs hdone hfin l (k + 1) _ _ (fun j hj => by have := hl (j + 1) (by simp; omega); simpa [Nat.add_assoc, Nat.add_comm 1 j] using this) (by simp only [List.length_cons] at hk; omega) (inv.set hr' (by omega)) hB' hK)
/-! one value, out of walks from wherever the region has come -/
def dstsB (t : Nat) : List Oper → Bool
  | [] => true
  | o :: l => (match o.dst with | some d => decide (d < t) && l.all (fun o' => o'.dst != some d) | none => false) && dstsB t l
theorem put_size (a : Act) (d : Option Tmp) (v : Value) : (a.put d v).tmps.size = a.tmps.size := by cases d <;> simp [Act.put]
theorem quiet_keeps {C : World → Prop} {A : Act} {d : Tmp} : ∀ (l : List Oper) (a : Act), (l.all fun o' => o'.dst != some d) = true → wpQuiet P ops C (fun a' => a' = A) l a → A.tmps[d]? = a.tmps[d]?
  | [], a, _, h => by rw [← (h : a = A)]
  | o :: l, a, hd, h => by
    simp only [List.all_cons, Bool.and_eq_true, bne_iff_ne, ne_eq] at hd
    have key : ∀ v, (a.put o.dst v).tmps[d]? = a.tmps[d]? := fun v => by
      cases ho : o.dst with
      | none => rfl
      | some e =>
        have : e ≠ d := fun he => hd.1 (by rw [ho, he])
        simp [Act.put, Array.getElem?_setIfInBounds_ne this]
    unfold wpQuiet at h
    split at h
    · obtain ⟨v, _, h2⟩ := h
      rw [quiet_keeps l _ hd.2 h2, key]
    · rw [quiet_keeps l _ hd.2 h, key]
theorem sure_of_quiet {A : Act} {Q : Act → Prop} (hQ : Q A) : ∀ (l : List Oper) (a : Act), dstsB a.tmps.size l = true → (∀ x : More, wpQuiet P ops (fun u => ∃ y, u = grow (grow w x) y) (fun a' => a' = A) l a) → sureL P ops w Q l a
  | [], a, _, h => by have := h More.none_; unfold wpQuiet at this; subst this; exact hQ
  | o :: l, a, hd, h => by
    simp only [dstsB, Bool.and_eq_true] at hd
    obtain ⟨hd1, hd2⟩ := hd
    cases ho : o.dst with
    | none => rw [ho] at hd1; cases hd1
    | some d =>
      rw [ho] at hd1
      simp only [Bool.and_eq_true, decide_eq_true_eq] at hd1
      have fixed : ∀ v, wpQuiet P ops (fun u => ∃ y, u = grow (grow w More.none_) y) (fun a' => a' = A) l (a.put o.dst v) → A.tmps[d]? = some v := fun v hv => by
        rw [quiet_keeps l _ hd1.2 hv, ho]
        simp [Act.put, hd1.1]
      have fixed' : ∀ (x : More) v, wpQuiet P ops (fun u => ∃ y, u = grow (grow w x) y) (fun a' => a' = A) l (a.put o.dst v) → A.tmps[d]? = some v := fun x v hv => by
        rw [quiet_keeps l _ hd1.2 hv, ho]
        simp [Act.put, hd1.1]
      by_cases hw : Region.wanted o (yielded ops a.tmps) = true
      · have h0 := h More.none_
        unfold wpQuiet at h0
        rw [if_pos hw] at h0
        obtain ⟨v, _, h2⟩ := h0
        have hv := fixed v h2
        have each : ∀ x : More, (∀ u, (∃ y, u = grow (grow w x) y) → o.quietAt P a (fun u => ∃ y, u = grow (grow w x) y) u v) ∧ wpQuiet P ops (fun u => ∃ y, u = grow (grow w x) y) (fun a' => a' = A) l (a.put o.dst v) := fun x => by
          have hx := h x
          unfold wpQuiet at hx
          rw [if_pos hw] at hx
          obtain ⟨v', h1', h2'⟩ := hx
          have hv' := fixed' x v' h2'
          rw [hv] at hv'
          cases hv'
          exact ⟨h1', h2'⟩
        refine ⟨v, .inl ⟨hw, fun x => (each x).1 _ ⟨More.none_, rfl⟩⟩, ?_⟩
        exact sure_of_quiet hQ l _ (by rw [put_size]; exact hd2) fun x => (each x).2
      · refine ⟨undef, .inr ⟨by simpa using hw, rfl⟩, ?_⟩
        refine sure_of_quiet hQ l _ (by rw [put_size]; exact hd2) fun x => ?_
        have hx := h x
        unfold wpQuiet at hx
        rw [if_neg hw] at hx
        exact hx
end
section
variable {P : Program} {w : World}
def tailB (l : List Oper) (n : Nat) : Bool :=
  Region.noSelect l.toArray && decide (n < l.length) && Region.sinkB .any l.toArray n && Region.chainB .any l.toArray n && lexH .any l.toArray (fun listed => Region.seqB .any l.toArray (l.length - n) n listed) n 0 (Array.replicate l.length false)
theorem inv0 (l : List Oper) (N : Nat) : HeadInv .any l.toArray N (Array.replicate l.length false) :=
  ⟨by simp, fun j oj _ hl => (by rw [getD_replicate_false] at hl; cases hl), fun t _ ht => getD_in (by simpa using ht) (getD_replicate_false _ _)⟩
/-- The region's first n operations read or are such calls; the rest goes in one order. A: the frame behind the first n. -/
theorem wp_region_tail {id : Nat} {Q : Exit → Act → World → Prop} {a : Act} {l : List Oper} (n : Nat) (A : Act) (hm : P.follows .mixedOrders = true) (hB : tailB l n = true) (hd : dstsB a.tmps.size (l.take n) = true)
    (h : ∀ x : More, wpQuiet P l.toArray (fun u => ∃ y, u = grow (grow w x) y) (fun a' => a' = A) (l.take n) a)
    (ht : ∀ x : More, wpList P l.toArray Q (l.drop n) A (grow w x)) : (Code.region id l.toArray true).wp P Q a w := by
  simp only [tailB, Bool.and_eq_true, decide_eq_true_eq] at hB
  obtain ⟨⟨⟨⟨hsel, hn⟩, hs⟩, hc⟩, hlex⟩ := hB
  have htl : (l.take n).length = n := by simp; omega
  refine wp_region_any hm ?_
  have hmk : Makes P l.toArray n none (.cells #[] 0) := fun d hd => by cases hd
  have hu : At w (.cells #[] 0) none { w with drawn := w.drawn + 1 } := grow_of (bel_drew (Below.refl _ _))
  have H := any_lex (P := P) (w := w) (md := .any) (ops := l.toArray) (n := n) (N := n) (alc := none) (obj := .cells #[] 0) (L := fun s listed a => s = none ∧ Region.seqB .any l.toArray (l.length - n) n listed = true ∧ a = A) (F := 0)
    (fin := fun listed => Region.seqB .any l.toArray (l.length - n) n listed) (Q := fun a => a = A) hmk hsel (Nat.le_refl _) (fun d hd => by cases hd) hs hc (by simpa using hn) (fun s listed a h => seqB_ready h.2.1)
    (fun listed a _ hf hq => ⟨rfl, hf, hq⟩) (l.take n) 0 (Array.replicate l.length false) a (fun j hj => by
      rw [htl] at hj
      simp [hj]) (by simpa using htl) (inv0 l n) (by rw [htl]; exact hlex) (sure_of_quiet (Q := fun a => a = A) rfl _ _ hd h)
  have S := any_sound (P := P) (Q' := Q) (g := l.length - n) hmk (fun s listed a u hu hl => by
    obtain ⟨rfl, hq, rfl⟩ := hl
    obtain ⟨x, rfl⟩ := hu
    have := wpAny_of_seq (md := .any) (Q' := Q) (ops := l.toArray) (l.drop n) n listed a (grow w x) (fun j => by simp [List.getElem?_drop]) (by simpa using hq) (ht x)
    simpa using this) _ _ _ _ _ hu H
  rw [htl, show n + 0 + (l.length - n) = l.length by omega] at S
  simpa using S
def makeB (l : List Oper) (n : Nat) : Bool :=
  Region.noSelect l.toArray && decide (n + 1 < l.length) && Region.sinkB .any l.toArray (n + 1) && Region.chainB .any l.toArray (n + 1) &&
  lexH .any l.toArray (fun listed => decide (Region.ready .any l.toArray listed = [n]) && Region.seqB .any l.toArray (l.length - (n + 1)) (n + 1) (listed.setIfInBounds n true)) n 0 (Array.replicate l.length false)
/-- The same, where operation n makes a block. -/
theorem wp_region_make {id : Nat} {Q : Exit → Act → World → Prop} {a : Act} {l : List Oper} (n : Nat) (A : Act) (d : Tmp) (obj : Obj) (hm : P.follows .mixedOrders = true) (hB : makeB l n = true) (hd : dstsB a.tmps.size (l.take n) = true)
    (hmk : Makes P l.toArray n (some d) obj)
    (h : ∀ x : More, wpQuiet P l.toArray (fun u => ∃ y, u = grow (grow w x) y) (fun a' => a' = A) (l.take n) a)
    (ht : ∀ x y : More, wpList P l.toArray Q (l.drop (n + 1)) (A.put (some d) (.pointer (some ⟨(grow w x).heap.size, 0, none⟩))) (grow ((grow w x).alloc obj) y)) : (Code.region id l.toArray true).wp P Q a w := by
  simp only [makeB, Bool.and_eq_true, decide_eq_true_eq] at hB
  obtain ⟨⟨⟨⟨hsel, hn⟩, hs⟩, hc⟩, hlex⟩ := hB
  have htl : (l.take n).length = n := by simp; omega
  refine wp_region_any hm ?_
  have hu : At w obj none { w with drawn := w.drawn + 1 } := grow_of (bel_drew (Below.refl _ _))
  have H := any_lex (P := P) (w := w) (md := .any) (ops := l.toArray) (n := n) (N := n + 1) (alc := some d) (obj := obj)
    (L := fun s listed a => Region.seqB .any l.toArray (l.length - (n + 1)) (n + 1) listed = true ∧ ∃ x, s = some x ∧ a = A.put (some d) (pt w x)) (F := 1)
    (fin := fun listed => decide (Region.ready .any l.toArray listed = [n]) && Region.seqB .any l.toArray (l.length - (n + 1)) (n + 1) (listed.setIfInBounds n true)) (Q := fun a => a = A) hmk hsel (by omega) (fun d hd => rfl) hs hc (by simpa using hn)
    (fun s listed a h => seqB_ready h.1)
    (fun listed a _ hf hq => by
      simp only [Bool.and_eq_true, decide_eq_true_eq] at hf
      refine ⟨by rw [hf.1]; simp, fun i hi => .inr ?_⟩
      rw [hf.1] at hi
      obtain rfl : i = n := by simpa using hi
      exact ⟨rfl, rfl, d, rfl, fun x => ⟨hf.2, x, rfl, by rw [hq]⟩⟩) (l.take n) 0 (Array.replicate l.length false) a (fun j hj => by
      rw [htl] at hj
      simp [hj]) (by simpa using htl) (inv0 l (n + 1)) (by rw [htl]; exact hlex) (sure_of_quiet (Q := fun a => a = A) rfl _ _ hd h)
  have S := any_sound (P := P) (Q' := Q) (g := l.length - (n + 1)) hmk (fun s listed a u hu hl => by
    obtain ⟨hq, x, rfl, rfl⟩ := hl
    obtain ⟨y, rfl⟩ := hu
    have := wpAny_of_seq (md := .any) (Q' := Q) (ops := l.toArray) (l.drop (n + 1)) (n + 1) listed (A.put (some d) (pt w x)) (grow ((grow w x).alloc obj) y) (fun j => by simp [List.getElem?_drop]) (by simpa using hq) (ht x y)
    simpa using this) _ _ _ _ _ hu H
  rw [htl, show n + 1 + (l.length - (n + 1)) = l.length by omega] at S
  simpa using S
end
end Go.Proofs.Ytpdnaceggpdleaa
namespace Go.Proofs.Ytpdnaceggpdleaa
open Go.RowKit
set_option linter.unusedVariables false
set_option linter.unusedSimpArgs false
theorem setRow_alloc_past (w : World) (o : Obj) (n : Nat) (cs : Array Value) (hn : n < w.heap.size) : (w.alloc o).setRow n cs = (w.setRow n cs).alloc o := by
  unfold World.setRow World.alloc
  congr 1
  apply Array.ext_getElem?
  intro k
  simp only [Array.getElem?_modify, Array.getElem?_push, Array.size_modify]
  by_cases hk : k = w.heap.size
  · subst hk; simp [Nat.ne_of_lt hn]
  · by_cases hn' : n = k <;> simp [hk, hn']
theorem setRow_alloc_at (w : World) (c cs : Array Value) (t : TypeId) (n : Nat) (hn : n = w.heap.size) : (w.alloc (.cells c t)).setRow n cs = w.alloc (.cells cs t) := by
  subst hn; exact World.setRow_alloc_new w c cs t
attribute [go_sem] setRow_alloc_past setRow_alloc_at
theorem ltd2 (n : Nat) : (n < n + 1 + 1) = True := eq_true (by omega)
theorem ltd3 (n : Nat) : (n < n + 1 + 1 + 1) = True := eq_true (by omega)
theorem ltd4 (n : Nat) : (n < n + 1 + 1 + 1 + 1) = True := eq_true (by omega)
theorem ltd5 (n : Nat) : (n < n + 1 + 1 + 1 + 1 + 1) = True := eq_true (by omega)
theorem ltd6 (n : Nat) : (n < n + 1 + 1 + 1 + 1 + 1 + 1) = True := eq_true (by omega)
theorem ltd7 (n : Nat) : (n < n + 1 + 1 + 1 + 1 + 1 + 1 + 1) = True := eq_true (by omega)
/-! what a block holds -/
theorem alloc_heap_at (w : World) (o : Obj) (n : Nat) (hn : n = w.heap.size) : (w.alloc o).heap[n]? = some o := by subst hn; exact heap_alloc_new w o
theorem alloc_heap_past (w : World) (o : Obj) (n : Nat) (hn : n < w.heap.size) : (w.alloc o).heap[n]? = w.heap[n]? := Below.heap_alloc w o n hn
theorem bel_setRow {a w : World} (h : Below a.heap.size a w) {n : Nat} (hn : a.heap.size ≤ n) (cs : Array Value) : Below a.heap.size a (w.setRow n cs) :=
  h.trans ⟨rfl, rfl, rfl, by simp, fun k hk => setRow_other w n k cs (by omega)⟩
/-- One operation by an equation of its own. -/
theorem wpList_val {P : Program} {ops : Array Oper} {rest : List Oper} {o : Oper} {a : Act} {w : World} {Q : Exit → Act → World → Prop} (hg : o.guard = none) (v : Value) (w' : World)
    (hrun : (execOp a.eval o).run P w = .ok (.value v) w') (h : wpList P ops Q rest (a.put o.dst v) w') : wpList P ops Q (o :: rest) a w :=
  wpList_plain hg fun _ hK => by
    unfold Oper.wp
    rw [hrun]
    exact hK _ _ h
end Go.Proofs.Ytpdnaceggpdleaa
namespace Go.Proofs.Ytpdnaceggpdleaa
open Go.RowKit
set_option linter.unusedVariables false
set_option linter.unusedSimpArgs false
def Blk (W : World) (g : Nat) (t : TypeId) (cs : Array Value) : Prop := W.heap[g]? = some (.cells cs t (0, 0))
section
variable {W W' : World} {g : Nat} {t : TypeId} {cs : Array Value}
theorem Blk.lt (h : Blk W g t cs) : g < W.heap.size := (Array.getElem?_eq_some_iff.1 h).1
theorem Blk.cell (h : Blk W g t cs) (i : Nat) : W.cell? ⟨g, i, none⟩ = cs[i]? := cell_of_row W g i cs t (0, 0) h
theorem Blk.frozen (h : Blk W g t cs) (i : Nat) : W.frozen? ⟨g, i, none⟩ = false := by
  unfold Blk at h; simp [World.frozen?, h]
theorem Blk.new (W : World) (t : TypeId) (cs : Array Value) (g : Nat) (hg : g = W.heap.size) : Blk (W.alloc (.cells cs t)) g t cs := by
  subst hg; exact heap_alloc_new W _
theorem Blk.below (h : Blk W g t cs) (hb : Below W.heap.size W W') : Blk W' g t cs := (hb.block g h.lt).trans h
theorem Blk.alloc (h : Blk W g t cs) (o : Obj) : Blk (W.alloc o) g t cs := h.below (bel_alloc (Below.refl _ _) o)
theorem Blk.grow (h : Blk W g t cs) (x : More) : Blk (grow W x) g t cs := h.below (x.kept W)
theorem Blk.then (x y : More) (h : Blk (Go.Proofs.Ytpdnaceggpdleaa.grow W x) g t cs) : Blk (Go.Proofs.Ytpdnaceggpdleaa.grow W (x.then y)) g t cs := Blk.grow h y
theorem Blk.drew (h : Blk W g t cs) : Blk W.drew g t cs := h
theorem Blk.set (h : Blk W g t cs) (i : Nat) (u : Value) : Blk (W.setCell ⟨g, i, none⟩ u) g t (cs.setIfInBounds i u) := by
  unfold Blk at h ⊢
  simp [World.setCell, Array.getElem?_modify, h]
theorem Blk.far (h : Blk W g t cs) {b : Nat} (i : Nat) (u : Value) (hb : b ≠ g) : Blk (W.setCell ⟨b, i, none⟩ u) g t cs := by
  unfold Blk at h ⊢
  simp [World.setCell, Array.getElem?_modify, h, hb]
theorem Blk.setRow (h : Blk W g t cs) (cs' : Array Value) : Blk (W.setRow g cs') g t cs' := setRow_heap W g cs cs' t (0, 0) h
theorem Blk.farRow (h : Blk W g t cs) {b : Nat} (cs' : Array Value) (hb : b ≠ g) : Blk (W.setRow b cs') g t cs := (setRow_other W b g cs' (Ne.symm hb)).trans h
theorem Blk.ne_ {g' : Nat} {t' : TypeId} {cs' : Array Value} (h : Blk W g t cs) (h' : Blk W g' t' cs') (hne : t ≠ t') : g ≠ g' := by
  rintro rfl
  unfold Blk at h h'
  rw [h] at h'
  injection h' with h'
  injection h' with _ ht
  exact hne ht
end
end Go.Proofs.Ytpdnaceggpdleaa
namespace Go.Proofs.Ytpdnaceggpdleaa
open Go.RowKit
set_option linter.unusedVariables false
set_option linter.unusedSimpArgs false
theorem wpAnyH_forced {P : Program} {md : Region.Mode} {ops : Array Oper} {Q : Exit → Act → World → Prop} {S : World → Prop} {fuel i : Nat} {oi : Oper} {listed : Array Bool} {a : Act} {w : World} (hr : Region.ready md ops listed = [i]) (hi : ops[i]? = some oi) (hg : oi.guard = none)
    (h : oi.wp P a w (fun a' w' => S w' ∧ wpAnyH P md ops Q S fuel (listed.setIfInBounds i true) a' w') Q) : wpAnyH P md ops Q S (fuel + 1) listed a w := by
  refine ⟨fun h0 => (by rw [hr] at h0; cases h0), fun j hj => ?_⟩
  rw [hr] at hj
  obtain rfl : j = i := by simpa using hj
  unfold wpOp
  simp only [hi]
  rw [if_pos (by simp [Region.wanted, hg])]
  left
  exact h
theorem anyH_letter {P : Program} {md : Region.Mode} {ops : Array Oper} {Q : Exit → Act → World → Prop} {S : World → Prop} {fuel : Nat} {listed : Array Bool} {a : Act} {w : World} (h : ∀ V : World, V = w → wpAnyH P md ops Q S fuel listed a V) : wpAnyH P md ops Q S fuel listed a w := h w rfl
theorem wp_value {P : Program} {o : Oper} {a : Act} {w w' : World} {v : Value} {K : Act → World → Prop} {Q : Exit → Act → World → Prop} (h : (execOp a.eval o).run P w = .ok (.value v) w') (hk : K (a.put o.dst v) w') : o.wp P a w K Q := by
  unfold Oper.wp
  rw [h]
  exact hk
theorem wp_enter {P : Program} {o : Oper} {a : Act} {w w' : World} {f : FuncId} {args : Array Value} {R : Value → World → Prop} {K : Act → World → Prop} {Q : Exit → Act → World → Prop} (h : (execOp a.eval o).run P w = .ok (.enter f args) w') (hc : Calls P f args w' fun e w'' => ∃ v, e = .returned v ∧ R v w'') (hk : ∀ v w'', R v w'' → K (a.put o.dst v) w'') : o.wp P a w K Q := by
  unfold Oper.wp
  rw [h]
  exact hc.mono fun e w'' ⟨v, he, hr⟩ => by
    subst he
    exact hk v w'' hr
theorem bel_dr {a w : World} (h : Below a.heap.size a w) (d : Nat) : Below a.heap.size a { w with drawn := d } := ⟨h.os, h.tape, h.output, h.size, h.block⟩
end Go.Proofs.Ytpdnaceggpdleaa
namespace Go.Proofs.Ytpdnaceggpdleaa
open Go.RowKit
set_option linter.unusedVariables false
set_option linter.unusedSimpArgs false
section
variable {P : Program} {md : Region.Mode} {ops : Array Oper} {Q : Exit → Act → World → Prop} {R : Nat → World → Value → Prop} {a0 : Act} {w0 : World}
/-- What the operations that are done have left. -/
structure MonoI (ops : Array Oper) (R : Nat → World → Value → Prop) (a0 : Act) (w0 : World) (listed : Array Bool) (a : Act) (w : World) : Prop where
  bel : Below w0.heap.size w0 w
  size : a.tmps.size = a0.tmps.size
  defers : a.defers = a0.defers
  keep : ∀ t, (∀ (j : Nat) (o : Oper), ops[j]? = some o → o.dst ≠ some t) → a.tmps[t]? = a0.tmps[t]?
  got : ∀ (j : Nat) (o : Oper) (d : Tmp), ops[j]? = some o → o.dst = some d → listed.getD j false = true → ∃ v, a.tmps[d]? = some v ∧ R j w v
/-- An operation, once those that it waits for are done. -/
def MonoS (P : Program) (md : Region.Mode) (ops : Array Oper) (R : Nat → World → Value → Prop) (a0 : Act) (w0 : World) (Q : Exit → Act → World → Prop) (i : Nat) (o : Oper) : Prop :=
  o.guard = none ∧ ∀ (a : Act) (w : World), Below w0.heap.size w0 w → a.tmps.size = a0.tmps.size → a.defers = a0.defers → (∀ t, (∀ (j : Nat) (o : Oper), ops[j]? = some o → o.dst ≠ some t) → a.tmps[t]? = a0.tmps[t]?) →
    (∀ e ∈ o.after, Region.binds md e = true → ∀ (oj : Oper) (d : Tmp), ops[e.on]? = some oj → oj.dst = some d → ∃ v, a.tmps[d]? = some v ∧ R e.on w v) →
    o.wp P a w (fun a' w' => ∃ v, a' = a.put o.dst v ∧ Below w.heap.size w w' ∧ (∀ d, o.dst = some d → R i w' v)) Q
theorem put_tmps (a : Act) (d : Option Tmp) (v : Value) : (a.put d v).defers = a.defers ∧ (a.put d v).tmps.size = a.tmps.size ∧ (∀ t, d ≠ some t → (a.put d v).tmps[t]? = a.tmps[t]?) ∧ (∀ t, d = some t → t < a.tmps.size → (a.put d v).tmps[t]? = some v) := by
  cases d with
  | none => exact ⟨rfl, rfl, fun t _ => rfl, fun t h => by cases h⟩
  | some t0 =>
    refine ⟨rfl, by simp [Act.put], fun t h => ?_, fun t h ht => ?_⟩
    · have : t0 ≠ t := fun e => h (by rw [e])
      simp [Act.put, Array.getElem?_setIfInBounds_ne this]
    · cases h
      simp [Act.put, ht]
theorem MonoI.step {listed : Array Bool} {a : Act} {w w' : World} {i : Nat} {o : Oper} {v : Value} (h : MonoI ops R a0 w0 listed a w) (hi : ops[i]? = some o)
    (hmono : ∀ (j : Nat) (w w' : World) (v : Value), Below w.heap.size w w' → R j w v → R j w' v) (hd : ∀ (i j : Nat) (oi oj : Oper) (d : Tmp), ops[i]? = some oi → ops[j]? = some oj → oi.dst = some d → oj.dst = some d → i = j) (hsz : ∀ (j : Nat) (oj : Oper) (d : Tmp), ops[j]? = some oj → oj.dst = some d → d < a0.tmps.size)
    (hB : Below w.heap.size w w') (hR : ∀ d, o.dst = some d → R i w' v) : MonoI ops R a0 w0 (listed.setIfInBounds i true) (a.put o.dst v) w' := by
  obtain ⟨p1, p2, p3, p4⟩ := put_tmps a o.dst v
  refine ⟨h.bel.trans (hB.mono h.bel.size), p2.trans h.size, p1.trans h.defers, fun t ht => (p3 t (ht i o hi)).trans (h.keep t ht), fun j oj d hj hjd hl => ?_⟩
  by_cases hij : i = j
  · subst hij
    obtain rfl := Option.some.inj (hi.symm.trans hj)
    exact ⟨v, p4 d hjd (by rw [h.size]; exact hsz i o d hi hjd), hR d hjd⟩
  · rw [getD_set_ne false hij] at hl
    obtain ⟨u, hu, hr⟩ := h.got j oj d hj hjd hl
    refine ⟨u, (p3 d (fun e => hij (hd i j o oj d hi hj e hjd))).trans hu, hmono j w w' u hB hr⟩
/-- How many operations are not done yet. -/
def left (listed : Array Bool) : Nat := (listed.toList.filter fun b => !b).length
theorem left_set {listed : Array Bool} {i : Nat} (h : listed.getD i true = false) : left (listed.setIfInBounds i true) + 1 = left listed := by
  unfold left
  have hi : i < listed.size := by
    rcases Nat.lt_or_ge i listed.size with q | q
    · exact q
    · simp [Array.getD, Nat.not_lt.2 q] at h
  have hv : listed[i] = false := by simpa [Array.getD, hi] using h
  have hl : i < listed.toList.length := by simpa using hi
  have e1 : listed.toList = listed.toList.take i ++ false :: listed.toList.drop (i + 1) := by
    have := List.take_append_drop i listed.toList
    rw [List.drop_eq_getElem_cons hl] at this
    have hv2 : listed.toList[i] = false := by simpa using hv
    rw [hv2] at this
    exact this.symm
  have e2 : (listed.setIfInBounds i true).toList = listed.toList.take i ++ true :: listed.toList.drop (i + 1) := by
    rw [Array.toList_setIfInBounds, List.set_eq_take_append_cons_drop, if_pos hl]
  rw [e2]
  conv => rhs; rw [e1]
  simp [List.filter_append, List.filter_cons]
  omega
theorem all_done {listed : Array Bool} (hlen : listed.size = ops.size) (hE : ∀ (i : Nat) (o : Oper), ops[i]? = some o → ∀ e ∈ o.after, Region.binds md e = true → e.on < i) (h : Region.ready md ops listed = []) : ∀ i, i < ops.size → listed.getD i false = true := fun i => by
  induction i using Nat.strongRecOn with
  | _ i ih =>
    intro hi
    cases hq : listed.getD i true with
    | true =>
      have hil : i < listed.size := by omega
      simp only [Array.getD, hil, dif_pos] at hq ⊢
      exact hq
    | false =>
      have : i ∈ Region.ready md ops listed := mem_ready.2 ⟨hq, ops[i], by simp [hi], fun e he hb => by
        have hlt := hE i ops[i] (by simp [hi]) e he hb
        exact ih e.on hlt (by omega)⟩
      rw [h] at this
      cases this
theorem mono_sound (hE : ∀ (i : Nat) (o : Oper), ops[i]? = some o → ∀ e ∈ o.after, Region.binds md e = true → e.on < i)
    (hmono : ∀ (j : Nat) (w w' : World) (v : Value), Below w.heap.size w w' → R j w v → R j w' v) (hd : ∀ (i j : Nat) (oi oj : Oper) (d : Tmp), ops[i]? = some oi → ops[j]? = some oj → oi.dst = some d → oj.dst = some d → i = j) (hsz : ∀ (j : Nat) (oj : Oper) (d : Tmp), ops[j]? = some oj → oj.dst = some d → d < a0.tmps.size)
    (hS : ∀ (i : Nat) (o : Oper), ops[i]? = some o → MonoS P md ops R a0 w0 Q i o)
    (hend : ∀ (a : Act) (w : World), Below w0.heap.size w0 w → a.tmps.size = a0.tmps.size → a.defers = a0.defers → (∀ t, (∀ (j : Nat) (o : Oper), ops[j]? = some o → o.dst ≠ some t) → a.tmps[t]? = a0.tmps[t]?) → (∀ (j : Nat) (o : Oper) (d : Tmp), ops[j]? = some o → o.dst = some d → ∃ v, a.tmps[d]? = some v ∧ R j w v) → Q .normal a w) :
    ∀ (fuel : Nat) (listed : Array Bool) (a : Act) (w : World), listed.size = ops.size → left listed ≤ fuel → MonoI ops R a0 w0 listed a w → wpAny P md ops Q fuel listed a w := by
  have fin : ∀ (listed : Array Bool) (a : Act) (w : World), listed.size = ops.size → MonoI ops R a0 w0 listed a w → Region.ready md ops listed = [] → Q .normal a w := fun listed a w hl hI hr => by
    have hall := all_done hl hE hr
    exact hend a w hI.bel hI.size hI.defers hI.keep (fun j o d hj hjd => hI.got j o d hj hjd (hall j (Array.getElem?_eq_some_iff.1 hj).1))
  intro fuel
  induction fuel with
  | zero =>
    intro listed a w hl h0 hI
    have hr : Region.ready md ops listed = [] := by
      rw [List.eq_nil_iff_forall_not_mem]
      intro i hi
      have := left_set (mem_ready.1 hi).1
      omega
    exact ⟨hr, fin listed a w hl hI hr⟩
  | succ f ih =>
    intro listed a w hl hf hI
    refine ⟨fin listed a w hl hI, fun i hi => ?_⟩
    obtain ⟨hun, o, ho, hall⟩ := mem_ready.1 hi
    obtain ⟨hg, hs⟩ := hS i o ho
    unfold wpOp
    simp only [ho]
    rw [if_pos (by simp [Region.wanted, hg])]
    left
    refine Oper.wp_mono ?_ (hs a w hI.bel hI.size hI.defers hI.keep (fun e he hb oj d hoj hdj => hI.got e.on oj d hoj hdj (hall e he hb)))
    rintro a' w' ⟨v, rfl, hB, hR⟩
    refine ih _ _ _ (by simp [hl]) (by have := left_set hun; omega) (hI.step ho hmono hd hsz hB hR)
/-- The rule. -/
theorem wp_region_mono {id : Nat} (R : Nat → World → Value → Prop) (hm : P.follows .mixedOrders = true) (hE : ∀ (i : Nat) (o : Oper), ops[i]? = some o → ∀ e ∈ o.after, Region.binds .any e = true → e.on < i)
    (hmono : ∀ (j : Nat) (w w' : World) (v : Value), Below w.heap.size w w' → R j w v → R j w' v) (hd : ∀ (i j : Nat) (oi oj : Oper) (d : Tmp), ops[i]? = some oi → ops[j]? = some oj → oi.dst = some d → oj.dst = some d → i = j) (hsz : ∀ (j : Nat) (oj : Oper) (d : Tmp), ops[j]? = some oj → oj.dst = some d → d < a0.tmps.size)
    (hS : ∀ (i : Nat) (o : Oper), ops[i]? = some o → MonoS P .any ops R a0 w0 Q i o)
    (hend : ∀ (a : Act) (w : World), Below w0.heap.size w0 w → a.tmps.size = a0.tmps.size → a.defers = a0.defers → (∀ t, (∀ (j : Nat) (o : Oper), ops[j]? = some o → o.dst ≠ some t) → a.tmps[t]? = a0.tmps[t]?) → (∀ (j : Nat) (o : Oper) (d : Tmp), ops[j]? = some o → o.dst = some d → ∃ v, a.tmps[d]? = some v ∧ R j w v) → Q .normal a w) :
    (Code.region id ops true).wp P Q a0 w0 := by
  refine wp_region_any hm (mono_sound (a0 := a0) (w0 := w0) (R := R) hE hmono hd hsz hS hend _ _ _ _ (by simp) (by unfold left; simp) ⟨bel_dr (Below.refl _ _) _, rfl, rfl, fun t _ => rfl, fun j o d _ _ hl => ?_⟩)
  simp [Array.getD] at hl
/-- Each operation of a list, with its number. -/
def allI (X : Nat → Oper → Prop) : Nat → List Oper → Prop
  | _, [] => True
  | k, o :: l => X k o ∧ allI X (k + 1) l
theorem allI_get {X : Nat → Oper → Prop} : ∀ (l : List Oper) (k : Nat), allI X k l → ∀ (i : Nat) (o : Oper), l[i]? = some o → X (k + i) o
  | [], _, _, i, o, h => by simp at h
  | x :: l, k, ⟨h1, h2⟩, i, o, h => by
    cases i with
    | zero => simp at h; subst h; exact h1
    | succ i =>
      have := allI_get l (k + 1) h2 i o (by simpa using h)
      rw [show k + (i + 1) = k + 1 + i by omega]; exact this
theorem allI_arr {X : Nat → Oper → Prop} {l : List Oper} (h : allI X 0 l) : ∀ (i : Nat) (o : Oper), l.toArray[i]? = some o → X i o := fun i o hi => by
  have := allI_get l 0 h i o (by simpa using hi)
  rwa [Nat.zero_add] at this
/-- Do the edges go back, are the slots apart and within the frame, is nothing guarded? (closed facts) -/
def edgesB (l : List Oper) : Bool := l.zipIdx.all fun x => x.1.after.all fun e => decide (e.on < x.2)
def dstB (l : List Oper) (n : Nat) : Bool := (l.filterMap (·.dst)).all (fun d => decide (d < n)) && decide (l.filterMap (·.dst)).Nodup
theorem edges_of {l : List Oper} (h : edgesB l = true) : ∀ (i : Nat) (o : Oper), l.toArray[i]? = some o → ∀ e ∈ o.after, Region.binds .any e = true → e.on < i := fun i o hi e he _ => by
  unfold edgesB at h
  rw [List.all_eq_true] at h
  have hm : (o, i) ∈ l.zipIdx := by
    rw [List.mem_zipIdx_iff_getElem?]
    simpa using hi
  have := h _ hm
  rw [Array.all_eq_true_iff_forall_mem] at this
  simpa using this e he
theorem dst_lt {l : List Oper} {n : Nat} (h : dstB l n = true) : ∀ (j : Nat) (oj : Oper) (d : Tmp), l.toArray[j]? = some oj → oj.dst = some d → d < n := fun j oj d hj hd => by
  unfold dstB at h
  simp only [Bool.and_eq_true, List.all_eq_true] at h
  have hm : d ∈ l.filterMap (·.dst) := List.mem_filterMap.2 ⟨oj, List.mem_of_getElem? (by simpa using hj), hd⟩
  simpa using h.1 d hm
theorem dst_one {l : List Oper} {n : Nat} (h : dstB l n = true) : ∀ (i j : Nat) (oi oj : Oper) (d : Tmp), l.toArray[i]? = some oi → l.toArray[j]? = some oj → oi.dst = some d → oj.dst = some d → i = j := by
  unfold dstB at h
  simp only [Bool.and_eq_true, decide_eq_true_eq] at h
  have hn := h.2
  clear h
  intro i j oi oj d hi hj hdi hdj
  replace hi : l[i]? = some oi := by simpa using hi
  replace hj : l[j]? = some oj := by simpa using hj
  induction l generalizing i j with
  | nil => simp at hi
  | cons x l ih =>
    have hmem : ∀ (k : Nat) (o : Oper), l[k]? = some o → o.dst = some d → d ∈ l.filterMap (·.dst) := fun k o hk hd => List.mem_filterMap.2 ⟨o, List.mem_of_getElem? hk, hd⟩
    have hn2 : (l.filterMap (·.dst)).Nodup := by
      cases hx : x.dst with
      | none => rw [List.filterMap_cons_none hx] at hn; exact hn
      | some y => rw [List.filterMap_cons_some hx] at hn; exact (List.nodup_cons.1 hn).2
    have hno : x.dst = some d → d ∉ l.filterMap (·.dst) := fun hx => by
      rw [List.filterMap_cons_some hx] at hn; exact (List.nodup_cons.1 hn).1
    cases i with
    | zero =>
      cases j with
      | zero => rfl
      | succ j =>
        simp at hi; subst hi
        exact absurd (hmem j oj (by simpa using hj) hdj) (hno hdi)
    | succ i =>
      cases j with
      | zero =>
        simp at hj; subst hj
        exact absurd (hmem i oi (by simpa using hi) hdi) (hno hdj)
      | succ j => rw [ih hn2 i j (by simpa using hi) (by simpa using hj)]
theorem eval_tmp {a : Act} {d : Tmp} {v : Value} (h : a.tmps[d]? = some v) : a.eval (.tmp d) = v := by
  simp [Act.eval, h]
/-- An operation that makes a value, and perhaps blocks. -/
theorem mono_val {i : Nat} {o : Oper} (hg : o.guard = none) (h : ∀ (a : Act) (w : World), Below w0.heap.size w0 w → (∀ t, (∀ (j : Nat) (o : Oper), ops[j]? = some o → o.dst ≠ some t) → a.tmps[t]? = a0.tmps[t]?) →
    (∀ e ∈ o.after, Region.binds md e = true → ∀ (oj : Oper) (d : Tmp), ops[e.on]? = some oj → oj.dst = some d → ∃ v, a.tmps[d]? = some v ∧ R e.on w v) → ∃ v w', (execOp a.eval o).run P w = .ok (.value v) w' ∧ Below w.heap.size w w' ∧ (∀ d, o.dst = some d → R i w' v)) : MonoS P md ops R a0 w0 Q i o :=
  ⟨hg, fun a w hB _ _ hk hp => by
    obtain ⟨v, w', hr, hb, hR⟩ := h a w hB hk hp
    exact wp_value hr ⟨v, rfl, hb, hR⟩⟩
/-- A call. -/
theorem mono_call {i : Nat} {o : Oper} (hg : o.guard = none) (h : ∀ (a : Act) (w : World), Below w0.heap.size w0 w → (∀ t, (∀ (j : Nat) (o : Oper), ops[j]? = some o → o.dst ≠ some t) → a.tmps[t]? = a0.tmps[t]?) →
    (∀ e ∈ o.after, Region.binds md e = true → ∀ (oj : Oper) (d : Tmp), ops[e.on]? = some oj → oj.dst = some d → ∃ v, a.tmps[d]? = some v ∧ R e.on w v) → ∃ f args, (execOp a.eval o).run P w = .ok (.enter f args) w ∧ Calls P f args w fun e w' => ∃ v, e = .returned v ∧ Below w.heap.size w w' ∧ (∀ d, o.dst = some d → R i w' v)) : MonoS P md ops R a0 w0 Q i o :=
  ⟨hg, fun a w hB _ _ hk hp => by
    obtain ⟨f, args, hr, hc⟩ := h a w hB hk hp
    exact wp_enter (R := fun v w' => Below w.heap.size w w' ∧ (∀ d, o.dst = some d → R i w' v)) hr (hc.mono fun e w' ⟨v, he, hb, hR⟩ => ⟨v, he, hb, hR⟩) fun v w' hR => ⟨v, rfl, hR⟩⟩
/-- The rule over a list of operations: what can be reckoned is reckoned. -/
theorem wp_region_monoL {id : Nat} {l : List Oper} (R : Nat → World → Value → Prop) (hm : P.follows .mixedOrders = true) (n : Nat) (hn : a0.tmps.size = n) (hE : edgesB l = true) (hD : dstB l n = true)
    (hmono : ∀ (j : Nat) (w w' : World) (v : Value), Below w.heap.size w w' → R j w v → R j w' v)
    (hS : allI (MonoS P .any l.toArray R a0 w0 Q) 0 l)
    (hend : ∀ (a : Act) (w : World), Below w0.heap.size w0 w → a.tmps.size = a0.tmps.size → a.defers = a0.defers → (∀ t, (∀ (j : Nat) (o : Oper), l.toArray[j]? = some o → o.dst ≠ some t) → a.tmps[t]? = a0.tmps[t]?) → (∀ (j : Nat) (o : Oper) (d : Tmp), l.toArray[j]? = some o → o.dst = some d → ∃ v, a.tmps[d]? = some v ∧ R j w v) → Q .normal a w) :
    (Code.region id l.toArray true).wp P Q a0 w0 :=
  wp_region_mono R hm (edges_of hE) hmono (dst_one hD) (fun j oj d h1 h2 => by rw [hn]; exact dst_lt hD j oj d h1 h2) (allI_arr hS) hend
theorem keep_of {l : List Oper} {t : Tmp} (h : (l.all fun o => o.dst != some t) = true) : ∀ (j : Nat) (o : Oper), l.toArray[j]? = some o → o.dst ≠ some t := fun j o hj => by
  rw [List.all_eq_true] at h
  have := h o (List.mem_of_getElem? (by simpa using hj))
  simpa using this
/-- A slot that holds just this. -/
def PE (x : Value) : World → Value → Prop := fun _ v => v = x
/-- A slot that holds a row of its own of n cells. -/
def PS (cs : Array Value) (n : Nat) : World → Value → Prop := fun w v => ∃ b, v = .slice (some ⟨b, 0, none⟩) n n ∧ b < w.heap.size ∧ ∀ i, w.cell? ⟨b, i, none⟩ = cs[i]?
def Stays (p : World → Value → Prop) : Prop := ∀ (w w' : World) (v : Value), Below w.heap.size w w' → p w v → p w' v
theorem PE.stays (x : Value) : Stays (PE x) := fun _ _ _ _ h => h
theorem PS.stays (cs : Array Value) (n : Nat) : Stays (PS cs n) := fun w w' v hB ⟨b, e, hb, hc⟩ => ⟨b, e, Nat.lt_of_lt_of_le hb hB.size, fun i => (hB.cell (p := ⟨b, i, none⟩) hb).trans (hc i)⟩
/-- The facts of a region's slots, as a list. -/
def RL (ps : List (World → Value → Prop)) : Nat → World → Value → Prop := fun j => ps.getD j fun _ _ => True
theorem RL.stays {ps : List (World → Value → Prop)} (h : ∀ p ∈ ps, Stays p) : ∀ (j : Nat) (w w' : World) (v : Value), Below w.heap.size w w' → RL ps j w v → RL ps j w' v := fun j w w' v hB hr => by
  unfold RL at *
  by_cases hj : j < ps.length
  · have e : ps.getD j (fun _ _ => True) = ps[j] := by simp [List.getD, hj]
    rw [e] at hr ⊢
    exact h _ (List.getElem_mem hj) w w' v hB hr
  · have e : ps.getD j (fun _ _ => True) = fun _ _ => True := by simp [List.getD, Nat.le_of_not_lt hj]
    rw [e]; trivial
/-- The slots ds of a frame's cells set, each to what f says. -/
def setAll (f : Tmp → Value) : List Tmp → Array Value → Array Value
  | [], b => b
  | d :: ds, b => setAll f ds (b.setIfInBounds d (f d))
theorem setAll_size (f : Tmp → Value) : ∀ (ds : List Tmp) (b : Array Value), (setAll f ds b).size = b.size
  | [], b => rfl
  | d :: ds, b => by unfold setAll; rw [setAll_size f ds]; simp
theorem setAll_get (f : Tmp → Value) : ∀ (ds : List Tmp) (b : Array Value) (t : Nat), t < b.size → (setAll f ds b)[t]? = if t ∈ ds then some (f t) else b[t]?
  | [], b, t, _ => by simp [setAll]
  | d :: ds, b, t, ht => by
    unfold setAll
    rw [setAll_get f ds _ t (by simpa using ht)]
    by_cases h1 : t ∈ ds
    · simp [h1]
    · by_cases h2 : t = d
      · subst h2
        simp [h1, ht]
      · have : d ≠ t := fun e => h2 e.symm
        simp [h1, h2, Array.getElem?_setIfInBounds_ne this]
/-- The frame behind the region, written out: the region's own slots by f, all others as they were. -/
theorem frame_eq {l : List Oper} {a : Act} (hsz : a.tmps.size = a0.tmps.size) (hdf : a.defers = a0.defers) (hk : ∀ t, (∀ (j : Nat) (o : Oper), l.toArray[j]? = some o → o.dst ≠ some t) → a.tmps[t]? = a0.tmps[t]?) (ds : List Tmp) (hds : l.filterMap (·.dst) = ds) :
    ∃ f : Tmp → Value, (∀ d v, a.tmps[d]? = some v → f d = v) ∧ a = ⟨setAll f ds a0.tmps, a0.defers⟩ := by
  refine ⟨fun d => (a.tmps[d]?).getD undef, fun d v h => by simp [h], ?_⟩
  have e : a.tmps = setAll (fun d => (a.tmps[d]?).getD undef) ds a0.tmps := by
    apply Array.ext_getElem?
    intro t
    by_cases ht : t < a0.tmps.size
    · rw [setAll_get _ _ _ _ ht]
      split
      · have : t < a.tmps.size := by omega
        simp [this]
      · rename_i hno
        refine hk t (fun j o hj hd => hno ?_)
        rw [← hds]
        exact List.mem_filterMap.2 ⟨o, List.mem_of_getElem? (by simpa using hj), hd⟩
    · rw [Array.getElem?_eq_none (by omega), Array.getElem?_eq_none (by rw [setAll_size]; omega)]
  cases a
  simp only at e hdf
  rw [← hdf]
  congr 1
end
end Go.Proofs.Ytpdnaceggpdleaa
