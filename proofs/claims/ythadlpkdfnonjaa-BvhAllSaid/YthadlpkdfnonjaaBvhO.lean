/- What BvhAll asks of a tree: each node, by its number; what all leaves hold. -/
import Derived.Test.YthadlpkdfnonjaaC0
namespace Go.Proofs.Ythadlpkdfnonjaa
set_option linter.unusedVariables false
set_option linter.unusedSimpArgs false
/-- A node of a tree, its number i: its items lie in its box; a node of none has its two nodes behind it, and their boxes in its own. -/
structure NdOk (B : Nat → Bx) (leaf : Nat) (N : List Nd) (I : List Nat) (i : Nat) (nd : Nd) : Prop where
  cl : nd.c ≤ leaf
  fc : nd.f + nd.c ≤ I.length
  its : ∀ k (h : k < I.length), nd.f ≤ k → k < nd.f + nd.c → jnB nd.b (B I[k]) = nd.b
  inner : nd.c = 0 → nd.l = i + 1 ∧ nd.l < nd.r ∧ nd.r < N.length ∧ (∀ n, N[nd.l]? = some n → jnB nd.b n.b = nd.b) ∧ (∀ n, N[nd.r]? = some n → jnB nd.b n.b = nd.b)
theorem laid_root {B : Nat → Bx} {N : List Nd} {I : List Nat} {a : Nat} : ∀ {t : Tr}, Laid B N I a t → ∃ n, N[a]? = some n ∧ n.b = bxL B t.root
  | .leaf f L, h => ⟨_, h.1, rfl⟩
  | .node L l r, h => ⟨_, h.1, rfl⟩
theorem laid_nodes (B : Nat → Bx) {leaf : Nat} (N : List Nd) (I : List Nat) : ∀ (t : Tr) (a f : Nat), t.Ok leaf f → Laid B N I a t → ∀ j, j < t.sz → ∃ nd, N[a + j]? = some nd ∧ NdOk B leaf N I (a + j) nd
  | .leaf f' L, a, f, ho, hl, j, hj => by
    obtain ⟨rfl, h1, h2⟩ := ho
    obtain ⟨k1, k2, k3⟩ := hl
    obtain rfl : j = 0 := by simp only [Tr.sz] at hj; omega
    have hlen := congrArg List.length k3
    rw [List.length_take, List.length_drop] at hlen
    refine ⟨_, k1, h2, by simp only; omega, fun k hk q1 q2 => ?_, fun h => by simp only at h; omega⟩
    refine jn_of (bxL_mem B ?_)
    simp only at q1 q2
    rw [← k3]
    have e : ((I.drop f').take L.length)[k - f']? = some I[k] := by
      rw [List.getElem?_take_of_lt (by omega), List.getElem?_drop, show f' + (k - f') = k by omega, List.getElem?_eq_getElem hk]
    exact List.mem_of_getElem? e
  | .node L l r, a, f, ho, hl, j, hj => by
    obtain ⟨o1, o2, o3, o4, o5⟩ := ho
    obtain ⟨k1, k2, k3⟩ := hl
    simp only [Tr.sz] at hj
    have hsl := sz_pos l
    have hsr := sz_pos r
    by_cases e : j = 0
    · subst e
      obtain ⟨nl, g1, g2⟩ := laid_root k2
      obtain ⟨nr, g3, g4⟩ := laid_root k3
      have hr := (List.getElem?_eq_some_iff.1 g3).1
      refine ⟨_, k1, Nat.zero_le _, Nat.zero_le _, fun k hk q1 q2 => by simp only at q1 q2; omega, fun _ => ⟨rfl, by simp only; omega, hr, fun n hn => ?_, fun n hn => ?_⟩⟩
      · have e2 : n = nl := Option.some.inj (hn.symm.trans g1)
        subst e2
        rw [g2]
        refine jn_of (bxL_sub B (fun x hx => o1.mem_iff.1 (List.mem_append_left _ (o4.mem_iff.1 hx))) (fun e => ?_))
        have := (ok_its o2).2
        rw [e] at o4
        rw [← o4.length_eq] at this
        simp at this
      · have e2 : n = nr := Option.some.inj (hn.symm.trans g3)
        subst e2
        rw [g4]
        refine jn_of (bxL_sub B (fun x hx => o1.mem_iff.1 (List.mem_append_right _ (o5.mem_iff.1 hx))) (fun e => ?_))
        have := (ok_its o3).2
        rw [e] at o5
        rw [← o5.length_eq] at this
        simp at this
    · by_cases q : j - 1 < l.sz
      · obtain ⟨nd, h1, h2⟩ := laid_nodes B N I l (a + 1) _ o2 k2 (j - 1) q
        rw [show a + 1 + (j - 1) = a + j by omega] at h1 h2
        exact ⟨nd, h1, h2⟩
      · obtain ⟨nd, h1, h2⟩ := laid_nodes B N I r (a + 1 + l.sz) _ o3 k3 (j - 1 - l.sz) (by omega)
        rw [show a + 1 + l.sz + (j - 1 - l.sz) = a + j by omega] at h1 h2
        exact ⟨nd, h1, h2⟩
theorem lay_nodes (B : Nat → Bx) {leaf : Nat} {t : Tr} (h : t.Ok leaf 0) (i : Nat) (hi : i < (t.lay B 0).length) : NdOk B leaf (t.lay B 0) t.its i (t.lay B 0)[i] := by
  rw [lay_len] at hi
  obtain ⟨nd, h1, h2⟩ := laid_nodes B (t.lay B 0) t.its t 0 0 h (laid_whole B h) i hi
  rw [Nat.zero_add] at h1 h2
  rw [(List.getElem?_eq_some_iff.1 h1).2]
  exact h2
def sumC (N : List Nd) : Nat := (N.map (·.c)).sum
theorem sumC_lay (B : Nat → Bx) : ∀ (t : Tr) (a : Nat), sumC (t.lay B a) = t.its.length
  | .leaf f L, a => by simp [sumC, Tr.lay, Tr.its]
  | .node L l r, a => by
    have h1 := sumC_lay B l (a + 1)
    have h2 := sumC_lay B r (a + 1 + l.sz)
    unfold sumC at *
    simp only [Tr.lay, Tr.its, List.map_cons, List.map_append, List.sum_cons, List.sum_append, List.length_append]
    omega
theorem sumC_next {N : List Nd} {i : Nat} (h : i < N.length) : sumC (N.take (i + 1)) = sumC (N.take i) + N[i].c := by
  unfold sumC
  rw [List.take_succ_eq_append_getElem h]
  simp only [List.map_append, List.map_cons, List.map_nil, List.sum_append, List.sum_cons, List.sum_nil]
  omega
theorem sumC_le {N : List Nd} {i : Nat} : sumC (N.take i) ≤ sumC N := by
  have h : sumC N = sumC (N.take i) + sumC (N.drop i) := by
    unfold sumC
    rw [← List.sum_append, ← List.map_append, List.take_append_drop]
  omega
end Go.Proofs.Ythadlpkdfnonjaa
