/- Three cages with the same faces, one moved, one flat: what Level answers. -/
import Derived.Test.YthpdplpjpopenaaSubZ
namespace Go.Proofs.Ythpdplpjpopenaa
open Go.RowKit
set_option linter.unusedVariables false
set_option linter.unusedSimpArgs false
theorem topo_one9 {n : Int} {fs : List (List Int)} {t u : TopoT} (h : TopoS n fs t) (k : TopoS n fs u) : u = t := by
  have e1 := h.edges.one k.edges
  have hl : t.fans.length = u.fans.length := by have := h.nf; have := k.nf; omega
  have hl2 : t.rs.length = u.rs.length := by have := h.nr; have := k.nr; omega
  have hl3 : t.rs.length = t.fans.length := by have := h.nr; have := h.nf; omega
  have hv : ∀ v (h1 : v < t.fans.length) (h2 : v < t.rs.length) (h3 : v < u.fans.length) (h4 : v < u.rs.length), t.fans[v] = u.fans[v] ∧ t.rs[v] = u.rs[v] := fun v h1 h2 h3 h4 => by
    obtain ⟨L, p1, p2, p3⟩ := h.fan v h1 h2
    obtain ⟨M, q1, q2, q3⟩ := k.fan v h3 h4
    obtain ⟨r1, r2⟩ := p1.unique h.walk.apart q1
    exact ⟨by rw [p3, q3, r1], r2⟩
  cases t; cases u
  simp only at e1 hl hl2 hl3 hv
  simp only [TopoT.mk.injEq]
  refine ⟨e1.symm, ?_, ?_⟩
  · exact (List.ext_getElem hl fun v h1 h2 => (hv v h1 (by omega) h2 (by omega)).1).symm
  · exact (List.ext_getElem hl2 fun v h1 h2 => (hv v (by omega) h1 (by omega) h2).2).symm
/-- Both Builds tell the same. -/
theorem lev_two {vs ws : List P3} {fs : List (List Int)} {ks : List P3} (hlen : ws.length = vs.length) (hf : ∀ p ∈ vs, InP 65536 p) (hw : ∀ p ∈ ws, InP 65536 p) {r r2 : Cg} {er er2 : Int} (h : LevR ⟨vs, fs, ks⟩ r er) (h2 : LevR ⟨ws, fs, ks⟩ r2 er2) :
    (er = 14 ∧ er2 = 14 ∧ r.vs.length = 0 ∧ r2.vs.length = 0) ∨ ∃ t sh, TopoS (vs.length : Int) fs t ∧ sharpP t.es ks = some sh ∧ er = 0 ∧ er2 = 0 ∧ r = levC ⟨vs, fs, ks⟩ t sh ∧ r2 = levC ⟨ws, fs, ks⟩ t sh := by
  cases h with
  | noSurf hn =>
    left
    cases h2 with
    | noSurf hn2 => exact ⟨rfl, rfl, rfl, rfl⟩
    | noEdge t hT he => exact ⟨rfl, rfl, rfl, rfl⟩
    | large t hT sh he hf2 => exact absurd hw hf2
    | fine t hT sh he hf2 => simp only at hT hn; rw [hlen] at hT; exact absurd hT.surf hn
  | noEdge t hT he =>
    left
    cases h2 with
    | noSurf hn2 => exact ⟨rfl, rfl, rfl, rfl⟩
    | noEdge t2 hT2 he2 => exact ⟨rfl, rfl, rfl, rfl⟩
    | large t2 hT2 sh2 he2 hf2 => exact absurd hw hf2
    | fine t2 hT2 sh2 he2 hf2 =>
      simp only at hT hT2 he he2
      rw [hlen] at hT2
      rw [hT2.edges.one hT.edges, he] at he2; cases he2
  | large t hT sh he hf2 => exact absurd hf hf2
  | fine t hT sh he hf2 =>
    simp only at hT he
    cases h2 with
    | noSurf hn2 => simp only at hn2; rw [hlen] at hn2; exact absurd hT.surf hn2
    | noEdge t2 hT2 he2 =>
      simp only at hT2 he2
      rw [hlen] at hT2
      rw [hT2.edges.one hT.edges, he] at he2; cases he2
    | large t2 hT2 sh2 he2 hf3 => exact absurd hw hf3
    | fine t2 hT2 sh2 he2 hf3 =>
      simp only at hT2 he2
      rw [hlen] at hT2
      obtain rfl := topo_one9 hT hT2
      rw [he] at he2
      obtain rfl : sh = sh2 := by simpa using he2
      exact .inr ⟨_, _, hT, he, rfl, rfl, rfl, rfl⟩
/-- Moved; flat. -/
def movP (b : P3) (p : P3) : P3 := ⟨p.x + b.x, p.y + b.y, p.z + b.z⟩
def flaP (b : P3) (p : P3) : P3 := ⟨p.x, b.y, p.z⟩
theorem vat_map (F : P3 → P3) (vs : List P3) (u : Int) (h0 : 0 ≤ u) (h1 : u < vs.length) : vat (vs.map F) u = F (vat vs u) := by
  have h : u.toNat < vs.length := by omega
  unfold vat
  rw [List.getD_eq_getElem?_getD, List.getElem?_eq_getElem (by simpa using h), List.getD_eq_getElem?_getD, List.getElem?_eq_getElem h]
  simp
theorem flat_eq {vs : List P3} {fs : List (List Int)} {ks : List P3} {b : P3} (few : vs.length + fs.length + tot fs ≤ 1000000) (hv : ∀ p ∈ vs, InP 32768 p) (hb : InP 16384 b) {r r2 r3 : Cg} {er er2 er3 : Int} (h : LevR ⟨vs, fs, ks⟩ r er) (h2 : LevR ⟨vs.map (movP b), fs, ks⟩ r2 er2) (h3 : LevR ⟨vs.map (flaP b), fs, ks⟩ r3 er3) :
    er2 = er ∧ er3 = er ∧ r2.vs.length = r.vs.length ∧ r3.vs.length = r.vs.length ∧ r.vs.length ≤ 2000000 ∧ ∀ i (g1 : i < r.vs.length) (g2 : i < r2.vs.length) (g3 : i < r3.vs.length), InP 32768 r.vs[i] ∧ r2.vs[i] = movP b r.vs[i] ∧ r3.vs[i].y = b.y := by
  obtain ⟨bx, byy, bz⟩ := hb
  have hf : ∀ p ∈ vs, InP 65536 p := fun p hp => by obtain ⟨x, y, z⟩ := hv p hp; exact ⟨by omega, by omega, by omega⟩
  have hm : ∀ p ∈ vs.map (movP b), InP 65536 p := fun p hp => by
    obtain ⟨q, hq, rfl⟩ := List.mem_map.1 hp
    obtain ⟨x, y, z⟩ := hv q hq
    exact ⟨by simp only [movP]; omega, by simp only [movP]; omega, by simp only [movP]; omega⟩
  have hl : ∀ p ∈ vs.map (flaP b), InP 65536 p := fun p hp => by
    obtain ⟨q, hq, rfl⟩ := List.mem_map.1 hp
    obtain ⟨x, y, z⟩ := hv q hq
    exact ⟨by simp only [flaP]; omega, by simp only [flaP]; omega, by simp only [flaP]; omega⟩
  have n2 : (vs.map (movP b)).length = vs.length := List.length_map ..
  have n3 : (vs.map (flaP b)).length = vs.length := List.length_map ..
  have a := lev_two n2 hf hm h h2
  have c := lev_two n3 hf hl h h3
  rcases a with ⟨a1, a2, a3, a4⟩ | ⟨t, sh, hT, hs, a1, a2, a3, a4⟩
  · rcases c with ⟨c1, c2, c3, c4⟩ | ⟨t, sh, hT, hs, c1, c2, c3, c4⟩
    · exact ⟨by omega, by omega, by omega, by omega, by omega, fun i g1 => by omega⟩
    · omega
  · rcases c with ⟨c1, c2, c3, c4⟩ | ⟨t', sh', hT', hs', c1, c2, c3, c4⟩
    · omega
    · obtain rfl := topo_one9 hT hT'
      rw [hs] at hs'
      obtain rfl : sh = sh' := by simpa using hs'
      subst a3
      subst a4
      subst c4
      have hel : t'.es.length ≤ tot fs := by have h1 := edges_le hT.walk hT.edges; rw [waysL_len] at h1; exact h1
      have ll : ∀ us : List P3, us.length = vs.length → (levC ⟨us, fs, ks⟩ t' sh).vs.length = vs.length + t'.es.length + fs.length := fun us hu => by
        simp only [levC, List.length_append, movedL_len, halvesL_len, midsL_len, hu]
      have sx := lev_shift co_x n2 hT hs hf hm few (k := b.x) (by omega) (fun u u0 u1 => by rw [vat_map _ _ _ u0 u1]; rfl)
      have sy := lev_shift co_y n2 hT hs hf hm few (k := b.y) (by omega) (fun u u0 u1 => by rw [vat_map _ _ _ u0 u1]; rfl)
      have sz := lev_shift co_z n2 hT hs hf hm few (k := b.z) (by omega) (fun u u0 u1 => by rw [vat_map _ _ _ u0 u1]; rfl)
      have fy := lev_box co_y (c := ⟨vs.map (flaP b), fs, ks⟩) (t := t') (sh := sh) (by simp only; rw [n3]; exact hT) hs hl (by simp only; rw [n3]; exact few) (lo := b.y) (hi := b.y) (fun p hp => by obtain ⟨q, hq, rfl⟩ := List.mem_map.1 hp; simp only [flaP]; omega)
      have gx := lev_box co_x (c := ⟨vs, fs, ks⟩) (t := t') (sh := sh) hT hs hf few (lo := -32768) (hi := 32768) (fun p hp => (hv p hp).1)
      have gy := lev_box co_y (c := ⟨vs, fs, ks⟩) (t := t') (sh := sh) hT hs hf few (lo := -32768) (hi := 32768) (fun p hp => (hv p hp).2.1)
      have gz := lev_box co_z (c := ⟨vs, fs, ks⟩) (t := t') (sh := sh) hT hs hf few (lo := -32768) (hi := 32768) (fun p hp => (hv p hp).2.2)
      refine ⟨by omega, by omega, by rw [ll _ n2, ll _ rfl], by rw [ll _ n3, ll _ rfl], by rw [ll _ rfl]; omega, fun i g1 g2 g3 => ?_⟩
      have at_ : ∀ (g : P3 → Int) (k : Int), (levC ⟨vs.map (movP b), fs, ks⟩ t' sh).vs.map g = (levC ⟨vs, fs, ks⟩ t' sh).vs.map (fun p => g p + k) → g (levC ⟨vs.map (movP b), fs, ks⟩ t' sh).vs[i] = g (levC ⟨vs, fs, ks⟩ t' sh).vs[i] + k := fun g k e => by
        have e2 := congrArg (fun l => l[i]?) e
        simp only [List.getElem?_map, List.getElem?_eq_getElem g1, List.getElem?_eq_getElem g2, Option.map_some, Option.some.injEq] at e2
        exact e2
      have x := at_ _ _ sx
      have y := at_ _ _ sy
      have z := at_ _ _ sz
      have m := List.getElem_mem g1
      refine ⟨⟨gx _ m, gy _ m, gz _ m⟩, ?_, ?_⟩
      · generalize (levC ⟨vs.map (movP b), fs, ks⟩ t' sh).vs[i] = p at *
        obtain ⟨px, py, pz⟩ := p
        simp only at x y z
        rw [x, y, z]; rfl
      · have := fy _ (List.getElem_mem g3); omega
end Go.Proofs.Ythpdplpjpopenaa
