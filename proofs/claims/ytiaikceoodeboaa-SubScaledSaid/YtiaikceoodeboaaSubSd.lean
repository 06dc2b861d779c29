/- Two cages, the one sixteen times the other but for rounding: level by level. -/
import Derived.Test.YtiaikceoodeboaaSubSc
import Derived.Test.YtiaikceoodeboaaSubL2
import Derived.Test.YtiaikceoodeboaaC15
namespace Go.Proofs.Ytiaikceoodeboaa
open Go.RowKit
set_option linter.unusedVariables false
set_option linter.unusedSimpArgs false
set_option linter.unusedSectionVars false
set_option linter.unnecessarySimpa false
def nrP (K : Int) (p q : P3) : Prop := nr K p.x q.x ∧ nr K p.y q.y ∧ nr K p.z q.z
def size9 (c : Cg) : Nat := c.vs.length + c.fs.length + tot c.fs + c.ks.length
structure Pair (a b : Cg) (k : Nat) : Prop where
  hl : b.vs.length = a.vs.length
  hf : b.fs = a.fs
  hk : b.ks = a.ks
  va : ∀ p ∈ a.vs, InP 4000 p
  vb : ∀ p ∈ b.vs, InP 64000 p
  near : ∀ i (h : i < a.vs.length) (h2 : i < b.vs.length), nrP (17 * (k : Int)) a.vs[i] b.vs[i]
  fi : ∀ q ∈ a.fs, ∀ x ∈ q, i64B x
  ki : ∀ p ∈ a.ks, I3 p
  sz : size9 a ≤ 100 * 10 ^ k
theorem InP.i3 {m : Int} {p : P3} (h : InP m p) (hm : m ≤ 65536) : I3 p := by
  obtain ⟨x, y, z⟩ := h
  unfold I3 i64B; omega
theorem Pair.cgA {a b : Cg} {k : Nat} (h : Pair a b k) (hk : k ≤ 2) {W : World} {A1 A2 A3 : Option Addr} (v1 : VL W A1 a.vs) (v2 : FL W A2 a.fs) (v3 : VL W A3 a.ks) : CgV W a A1 A2 A3 :=
  ⟨fun p hp => (h.va p hp).i3 (by omega), h.fi, h.ki, v1, v2, v3, by
    have := h.sz
    unfold size9 at this
    rcases (by omega : k = 0 ∨ k = 1 ∨ k = 2) with rfl | rfl | rfl <;> simp at this <;> omega⟩
theorem Pair.cgB {a b : Cg} {k : Nat} (h : Pair a b k) (hk : k ≤ 2) {W : World} {A1 A2 A3 : Option Addr} (v1 : VL W A1 b.vs) (v2 : FL W A2 b.fs) (v3 : VL W A3 b.ks) : CgV W b A1 A2 A3 :=
  ⟨fun p hp => (h.vb p hp).i3 (by omega), by rw [h.hf]; exact h.fi, by rw [h.hk]; exact h.ki, v1, v2, v3, by
    have := h.sz
    unfold size9 at this
    rw [h.hl, h.hf, h.hk]
    rcases (by omega : k = 0 ∨ k = 1 ∨ k = 2) with rfl | rfl | rfl <;> simp at this <;> omega⟩
theorem rest_mem (N : Int) : ∀ (L : List (Ed × Int)) (k : Nat) (p : P3), p ∈ restP N k L → ∃ q ∈ L, ∃ j, j < L.length ∧ (p.x = q.1.a ∨ p.x = q.1.b) ∧ p.y = N + ((k + j : Nat) : Int) ∧ lessS q.1 q.2 = some p.z
  | [], _, p, h => by simp [restP] at h
  | a :: r, k, p, h => by
    rw [restP, List.mem_append] at h
    rcases h with h | h
    · refine ⟨a, by simp, 0, by simp, ?_⟩
      cases hl : lessS a.1 a.2 with
      | none => rw [hl] at h; simp at h
      | some s =>
        rw [hl] at h
        simp only [List.mem_cons, List.not_mem_nil, or_false] at h
        rcases h with rfl | rfl
        · exact ⟨.inl rfl, by simp, rfl⟩
        · exact ⟨.inr rfl, by simp, rfl⟩
    · obtain ⟨q, hq, j, hj, h1, h2, h3⟩ := rest_mem N r (k + 1) p h
      exact ⟨q, List.mem_cons_of_mem _ hq, j + 1, by simp; omega, h1, by rw [h2]; congr 2; omega, h3⟩
theorem rest_le2 (N : Int) : ∀ (L : List (Ed × Int)) (k : Nat), (restP N k L).length ≤ 2 * L.length
  | [], _ => by simp [restP]
  | p :: r, k => by
    have ih := rest_le2 N r (k + 1)
    rw [restP, List.length_append, List.length_cons]
    cases lessS p.1 p.2 <;> simp <;> omega
theorem tot_four : ∀ l : List (List Int), (∀ x ∈ l, x.length = 4) → tot l = 4 * l.length
  | [], _ => rfl
  | x :: l, h => by
    have ih := tot_four l (fun y hy => h y (List.mem_cons_of_mem _ hy))
    have h1 := h x (by simp)
    simp only [tot, List.map_cons, List.sum_cons, List.length_cons] at ih ⊢
    omega
theorem lev_pair {a b : Cg} {k : Nat} (h : Pair a b k) (hk : k ≤ 1) {r r2 : Cg} {er er2 : Int} (hL : LevR a r er) (hL2 : LevR b r2 er2) : (er = 14 ∧ er2 = 14) ∨ (er = 0 ∧ er2 = 0 ∧ Pair r r2 (k + 1)) := by
  obtain ⟨vs, fs, ks⟩ := a
  obtain ⟨ws, gs, js⟩ := b
  obtain ⟨hl, hf, hk2, va, vb, near, fi, ki, sz⟩ := h
  simp only at hl hf hk2 va vb near fi ki
  subst hf
  subst hk2
  unfold size9 at sz
  simp only at sz
  have sz2 : vs.length + gs.length + tot gs + js.length ≤ 1000 := by rcases (by omega : k = 0 ∨ k = 1) with rfl | rfl <;> simp at sz <;> omega
  have va6 : ∀ p ∈ vs, InP 65536 p := fun p hp => by obtain ⟨x, y, z⟩ := va p hp; exact ⟨by omega, by omega, by omega⟩
  have vb6 : ∀ p ∈ ws, InP 65536 p := fun p hp => by obtain ⟨x, y, z⟩ := vb p hp; exact ⟨by omega, by omega, by omega⟩
  rcases lev_two hl va6 vb6 hL hL2 with ⟨e1, e2, _⟩ | ⟨t, sh, hT, hs, e1, e2, rfl, rfl⟩
  · exact .inl ⟨e1, e2⟩
  · refine .inr ⟨e1, e2, ?_⟩
    have hel : t.es.length ≤ tot gs := by have h1 := edges_le hT.walk hT.edges; rw [waysL_len] at h1; exact h1
    have ll : ∀ us : List P3, us.length = vs.length → (levC ⟨us, gs, js⟩ t sh).vs.length = vs.length + t.es.length + gs.length := fun us hu => by
      simp only [levC, List.length_append, movedL_len, halvesL_len, midsL_len, hu]
    have hfl : (fine (vs.length : Int) t.es gs).length = tot gs := by rw [fine_len, waysL_len]
    have hff : ∀ x ∈ fine (vs.length : Int) t.es gs, x.length = 4 := fun x hx => by
      obtain ⟨w, _, rfl⟩ := List.mem_map.1 hx; rfl
    have few : vs.length + gs.length + tot gs ≤ 1000000 := by omega
    have hqs : ∀ (g : P3 → Int), (∀ p q, nrP (17 * (k : Int)) p q → nr (17 * (k : Int)) (g p) (g q)) → ∀ u : Int, 0 ≤ u → u < vs.length → nr (17 * (k : Int)) (g (vat vs u)) (g (vat ws u)) := fun g hg u h0 h1 => by
      have e : u = ((u.toNat : Nat) : Int) := by omega
      rw [e, vat_nat vs u.toNat (by omega), vat_nat ws u.toNat (by omega)]
      exact hg _ _ (near u.toNat (by omega) (by omega))
    have hD : (0 : Int) ≤ 17 * (k : Int) ∧ 17 * (k : Int) ≤ 1000 := by omega
    have sx := lev_sc co_x hl hT hs va6 vb6 few hD (hqs _ fun p q h => h.1)
    have sy := lev_sc co_y hl hT hs va6 vb6 few hD (hqs _ fun p q h => h.2.1)
    have sz3 := lev_sc co_z hl hT hs va6 vb6 few hD (hqs _ fun p q h => h.2.2)
    have b1 : ∀ (g : P3 → Int) (hg : Co g) (hb : ∀ p ∈ vs, -4000 ≤ g p ∧ g p ≤ 4000), ∀ p ∈ (levC ⟨vs, gs, js⟩ t sh).vs, -4000 ≤ g p ∧ g p ≤ 4000 := fun g hg hb => lev_box hg (c := ⟨vs, gs, js⟩) hT hs va6 few hb
    have b2 : ∀ (g : P3 → Int) (hg : Co g) (hb : ∀ p ∈ ws, -64000 ≤ g p ∧ g p ≤ 64000), ∀ p ∈ (levC ⟨ws, gs, js⟩ t sh).vs, -64000 ≤ g p ∧ g p ≤ 64000 := fun g hg hb => lev_box hg (c := ⟨ws, gs, js⟩) (by simp only; rw [hl]; exact hT) hs vb6 (by simp only; rw [hl]; exact few) hb
    refine ⟨by rw [ll _ hl, ll _ rfl], ?_, ?_, fun p hp => ⟨b1 _ co_x (fun p hp => (va p hp).1) p hp, b1 _ co_y (fun p hp => (va p hp).2.1) p hp, b1 _ co_z (fun p hp => (va p hp).2.2) p hp⟩, fun p hp => ⟨b2 _ co_x (fun p hp => (vb p hp).1) p hp, b2 _ co_y (fun p hp => (vb p hp).2.1) p hp, b2 _ co_z (fun p hp => (vb p hp).2.2) p hp⟩, fun i h1 h2 => ?_, ?_, ?_, ?_⟩
    · show fine (ws.length : Int) t.es gs = fine (vs.length : Int) t.es gs
      rw [hl]
    · show restP (ws.length : Int) 0 _ = restP (vs.length : Int) 0 _
      rw [hl]
    · have e : 17 * ((k + 1 : Nat) : Int) = 17 * (k : Int) + 17 := by omega
      rw [e]
      exact ⟨sx i h1 h2, sy i h1 h2, sz3 i h1 h2⟩
    · intro q hq x hx
      have hr := (fine_surf hT).1.corner_rng hq hx
      unfold i64B; omega
    · intro p hp
      obtain ⟨q, hq, j, hj, h1, h2, h3⟩ := rest_mem _ _ _ p hp
      have hq1 := List.of_mem_zip (show (q.1, q.2) ∈ t.es.zip sh from hq)
      obtain ⟨r1, r2, _⟩ := edge_rng hT hq1.1
      have s1 := sharpP_i64 ki hs q.2 hq1.2
      rw [List.length_zip] at hj
      have hz : i64B p.z := by
        unfold lessS at h3
        split at h3
        · cases h3
        · rename_i hc
          simp only [Option.some.injEq] at h3
          rw [← h3]
          unfold i64B at s1 ⊢
          split <;> omega
      refine ⟨?_, ?_, hz⟩
      · unfold i64B; rcases h1 with e | e <;> rw [e] <;> omega
      · simp only at h2; rw [h2]; unfold i64B; omega
    · have hkl := rest_le2 (vs.length : Int) (t.es.zip sh) 0
      rw [List.length_zip] at hkl
      have ht := tot_four _ hff
      rw [hfl] at ht
      have e : size9 (levC ⟨vs, gs, js⟩ t sh) = (vs.length + t.es.length + gs.length) + tot gs + 4 * tot gs + (restP (vs.length : Int) 0 (t.es.zip sh)).length := by
        unfold size9
        rw [ll _ rfl]
        show _ + (fine (vs.length : Int) t.es gs).length + tot (fine (vs.length : Int) t.es gs) + _ = _
        rw [hfl, ht]
        rfl
      rw [e, Nat.pow_succ]
      generalize 10 ^ k = X at *
      omega
end Go.Proofs.Ytiaikceoodeboaa
