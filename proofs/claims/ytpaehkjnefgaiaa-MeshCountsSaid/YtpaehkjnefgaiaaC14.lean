/- A region in any order in which some operations store or make, one behind the other; the others read, or call what only grows. No program is imported. Rows of points that are read; cages that are handed in, opened. Package mesh: rows of vertices and of keys, stored into place by place; the mesh of a patch. Package mesh: cut. Package mesh: the greatest of the rates; a dicer built. Package mesh: Dice. -/
import Derived.Test.YtpaehkjnefgaiaaC4
import Derived.Test.YtpaehkjnefgaiaaC10
import Derived.Test.YtpaehkjnefgaiaaC12
import Derived.Test.YtpaehkjnefgaiaaC13
namespace Go.Proofs.Ytpaehkjnefgaiaa
open Go.RowKit
set_option linter.unusedVariables false
set_option linter.unusedSimpArgs false
section
variable {P : Program} {Q : Exit → Act → World → Prop} {R : Nat → Value → Prop} {a0 : Act} {F : World → Prop} {ps : List Nat} {X : Nat → World → Prop}
def JN (F : World → Prop) (ps : List Nat) (X : Nat → World → Prop) (listed : Array Bool) (w : World) : Prop := F w ∧ ∃ k, k ≤ ps.length ∧ X k w ∧ ∀ i (h : i < ps.length), ps[i] < listed.size ∧ (listed.getD ps[i] false = true ↔ i < k)
theorem jn_val {ops : Array Oper} {i : Nat} {o : Oper} (hg : o.guard = none) (hp : i ∉ ps)
    (h : ∀ (a : Act) (u : World), F u → (∃ k, k ≤ ps.length ∧ X k u) → (∀ t, (∀ (j : Nat) (o : Oper), ops[j]? = some o → o.dst ≠ some t) → a.tmps[t]? = a0.tmps[t]?) →
      (∀ e ∈ o.after, Region.binds .any e = true → ∀ (oj : Oper) (d : Tmp), ops[e.on]? = some oj → oj.dst = some d → ∃ v, a.tmps[d]? = some v ∧ R e.on v) → ∃ v, (execOp a.eval o).run P u = .ok (.value v) u ∧ R i v) : MonoKS P ops R a0 (JN F ps X) Q i o :=
  ⟨hg, fun a w listed hJ hu hall hsz hdf hk hgot => by
    obtain ⟨hF, k, h1, h2, h3⟩ := hJ
    obtain ⟨v, hr, hR⟩ := h a w hF ⟨k, h1, h2⟩ hk hgot
    refine wp_value hr ⟨v, rfl, ⟨hF, k, h1, h2, fun j hj => ?_⟩, fun _ _ => hR⟩
    obtain ⟨h4, h5⟩ := h3 j hj
    refine ⟨by simpa using h4, ?_⟩
    rw [getD_set_ne false (fun e => hp (by rw [e]; exact List.getElem_mem hj))]
    exact h5⟩
theorem jn_call {ops : Array Oper} {i : Nat} {o : Oper} (hg : o.guard = none) (hp : i ∉ ps) (hF : Grows F) (hX : ∀ k, Grows (X k))
    (h : ∀ (a : Act) (u : World), F u → (∀ t, (∀ (j : Nat) (o : Oper), ops[j]? = some o → o.dst ≠ some t) → a.tmps[t]? = a0.tmps[t]?) →
      (∀ e ∈ o.after, Region.binds .any e = true → ∀ (oj : Oper) (d : Tmp), ops[e.on]? = some oj → oj.dst = some d → ∃ v, a.tmps[d]? = some v ∧ R e.on v) → ∃ f args v, (execOp a.eval o).run P u = .ok (.enter f args) u ∧ (Calls P f args u fun e w' => e = .returned v ∧ Below u.heap.size u w') ∧ R i v) : MonoKS P ops R a0 (JN F ps X) Q i o :=
  ⟨hg, fun a w listed hJ hu hall hsz hdf hk hgot => by
    obtain ⟨hFw, k, h1, h2, h3⟩ := hJ
    obtain ⟨f, args, v, hr, hc, hR⟩ := h a w hFw hk hgot
    refine wp_enter (R := fun v' w' => v' = v ∧ Below w.heap.size w w') hr (hc.mono fun e w' ⟨he, hb⟩ => ⟨v, he, rfl, hb⟩) fun v' w' ⟨hv, hb⟩ => ?_
    subst hv
    refine ⟨_, rfl, ⟨hF _ _ hb hFw, k, h1, hX k _ _ hb h2, fun j hj => ?_⟩, fun _ _ => hR⟩
    obtain ⟨h4, h5⟩ := h3 j hj
    refine ⟨by simpa using h4, ?_⟩
    rw [getD_set_ne false (fun e => hp (by rw [e]; exact List.getElem_mem hj))]
    exact h5⟩
/-- The k-th of the operations that change the memory. -/
theorem jn_chg {ops : Array Oper} {i : Nat} {o : Oper} (hg : o.guard = none) (k : Nat) (hk : k < ps.length) (hps : ps[k] = i) (hnd : ps.Nodup)
    (hw : k = 0 ∨ ∃ e ∈ o.after, Region.binds .any e = true ∧ some e.on = ps[k - 1]?)
    (h : ∀ (a : Act) (u : World), F u → X k u → (∀ t, (∀ (j : Nat) (o : Oper), ops[j]? = some o → o.dst ≠ some t) → a.tmps[t]? = a0.tmps[t]?) →
      (∀ e ∈ o.after, Region.binds .any e = true → ∀ (oj : Oper) (d : Tmp), ops[e.on]? = some oj → oj.dst = some d → ∃ v, a.tmps[d]? = some v ∧ R e.on v) → o.wp P a u (fun a' w' => ∃ v, a' = a.put o.dst v ∧ F w' ∧ X (k + 1) w' ∧ ∀ d, o.dst = some d → R i v) Q) : MonoKS P ops R a0 (JN F ps X) Q i o :=
  ⟨hg, fun a w listed hJ hu hall hsz hdf hkk hgot => by
    obtain ⟨hF, k', h1, h2, h3⟩ := hJ
    obtain ⟨hif, _⟩ := getD_tf hu
    have hle : k' ≤ k := by
      have := (h3 k hk).2
      rw [hps, hif] at this
      have : ¬ k < k' := fun h => by have := this.2 h; cases this
      omega
    have hge : k ≤ k' := by
      rcases hw with h0 | ⟨e, he, hb, heq⟩
      · omega
      · rcases Nat.eq_zero_or_pos k with h0 | h0
        · omega
        · rw [List.getElem?_eq_getElem (by omega)] at heq
          have hd := hall e he hb
          rw [Option.some.inj heq] at hd
          have := (h3 (k - 1) (by omega)).2.1 hd
          omega
    obtain rfl : k = k' := by omega
    refine Oper.wp_mono ?_ (h a w hF h2 hkk hgot)
    rintro a' w' ⟨v, rfl, hF', hX', hR⟩
    refine ⟨v, rfl, ⟨hF', k + 1, hk, hX', fun j hj => ?_⟩, hR⟩
    obtain ⟨h4, h5⟩ := h3 j hj
    refine ⟨by simpa using h4, ?_⟩
    by_cases e : j = k
    · subst e
      rw [hps] at h4 ⊢
      exact ⟨fun _ => by omega, fun _ => getD_self h4⟩
    · have hne : i ≠ ps[j] := fun e2 => e (((List.getElem_inj hnd).1 (e2.symm.trans hps.symm)))
      rw [getD_set_ne false hne, h5]
      omega⟩
theorem jn_start {n : Nat} {w0 : World} (hp : ∀ p ∈ ps, p < n) (hF : F w0) (hX : X 0 w0) : JN F ps X (Array.replicate n false) w0 :=
  ⟨hF, 0, Nat.zero_le _, hX, fun i hi => ⟨by simpa using hp _ (List.getElem_mem hi), by simp [Array.getD]⟩⟩
theorem jn_end {n : Nat} {listed : Array Bool} {w : World} (h : JN F ps X listed w) (hp : ∀ p ∈ ps, p < n) (hall : ∀ j, j < n → listed.getD j false = true) : F w ∧ X ps.length w := by
  obtain ⟨hF, k, h1, h2, h3⟩ := h
  refine ⟨hF, ?_⟩
  rcases Nat.eq_zero_or_pos ps.length with h0 | h0
  · rwa [show ps.length = k by omega]
  · have := (h3 (ps.length - 1) (by omega)).2.1 (hall _ (hp _ (List.getElem_mem _)))
    rwa [show ps.length = k by omega]
end
end Go.Proofs.Ytpaehkjnefgaiaa
namespace Go.Proofs.Ytpaehkjnefgaiaa
open Go.ChangeShapes Go.WideShapes Go.ChangeAt Go.RowKit
set_option linter.unusedVariables false
set_option linter.unusedSimpArgs false
set_option maxRecDepth 100000
/-- A row of structs of three numbers that lies somewhere. -/
def VL (W : World) (A : Option Addr) (ps : List P3) : Prop := 0 < ps.length → ∃ b off, A = some ⟨b, off, none⟩ ∧ b < W.heap.size ∧ ∀ i (h : i < ps.length), W.cell? ⟨b, off + i * 3, none⟩ = some (.int .i64 ps[i].x) ∧ W.cell? ⟨b, off + i * 3 + 1, none⟩ = some (.int .i64 ps[i].y) ∧ W.cell? ⟨b, off + i * 3 + 2, none⟩ = some (.int .i64 ps[i].z)
theorem VL.below {W W' : World} {A : Option Addr} {ps : List P3} (h : VL W A ps) (hb : Below W.heap.size W W') : VL W' A ps := fun hn => by
  obtain ⟨b, off, e, hl, hc⟩ := h hn
  refine ⟨b, off, e, Nat.lt_of_lt_of_le hl hb.size, fun i hi => ?_⟩
  obtain ⟨h1, h2, h3⟩ := hc i hi
  exact ⟨(hb.cell (p := ⟨b, _, none⟩) hl).trans h1, (hb.cell (p := ⟨b, _, none⟩) hl).trans h2, (hb.cell (p := ⟨b, _, none⟩) hl).trans h3⟩
theorem VL.nil (W : World) (A : Option Addr) : VL W A [] := fun h => by simp at h
theorem VL.at_ {W : World} {A : Option Addr} {ps : List P3} (h : VL W A ps) (i : Nat) (hi : i < ps.length) : ∃ b off, A = some ⟨b, off, none⟩ ∧ b < W.heap.size ∧ W.cell? ⟨b, off + i * 3, none⟩ = some (.int .i64 ps[i].x) ∧ W.cell? ⟨b, off + i * 3 + 1, none⟩ = some (.int .i64 ps[i].y) ∧ W.cell? ⟨b, off + i * 3 + 2, none⟩ = some (.int .i64 ps[i].z) := by
  obtain ⟨b, off, e, hl, hc⟩ := h (by omega)
  exact ⟨b, off, e, hl, hc i hi⟩
/-- A point of machine numbers. -/
def I3 (p : P3) : Prop := i64B p.x ∧ i64B p.y ∧ i64B p.z
structure Cg where
  vs : List P3
  fs : List (List Int)
  ks : List P3
/-- What a cage that is handed in keeps. -/
structure RawC (W : World) (c : Cg) (A1 A2 A3 : Option Addr) : Prop where
  l1 : c.vs.length ≤ reachBytes
  l2 : c.fs.length ≤ reachBytes
  l3 : c.ks.length ≤ reachBytes
  i1 : ∀ p ∈ c.vs, I3 p
  i2 : ∀ q ∈ c.fs, q.length ≤ reachBytes ∧ (∀ x ∈ q, i64B x)
  i3 : ∀ p ∈ c.ks, I3 p
  v1 : VL W A1 c.vs
  v2 : FL W A2 c.fs
  v3 : VL W A3 c.ks
section
variable {H : Type} {enc : TypeId × Value → H} {w : World} {base : Nat} {spare : Nat → Bool} {held : Bool}
end
end Go.Proofs.Ytpaehkjnefgaiaa
namespace Go.Proofs.Ytpaehkjnefgaiaa
open Go.RowKit
set_option linter.unusedVariables false
set_option linter.unusedSimpArgs false
set_option linter.unnecessarySimpa false
set_option maxRecDepth 100000
theorem blk_setCells {t : TypeId} {g : Nat} : ∀ (vs : List Value) (W : World) (cs : Array Value) (o : Nat), Blk W g t cs → ∃ cs', Blk (W.setCells g o vs) g t cs' ∧ cs'.size = cs.size ∧ ∀ i, i < cs.size → cs'[i]? = if o ≤ i ∧ i < o + vs.length then vs[i - o]? else cs[i]?
  | [], W, cs, o, h => ⟨cs, h, rfl, fun i hi => by rw [if_neg (by simp)]⟩
  | v :: r, W, cs, o, h => by
    obtain ⟨cs', h1, h2, h3⟩ := blk_setCells r _ _ (o + 1) (h.set o v)
    refine ⟨cs', h1, by rw [h2]; simp, fun i hi => ?_⟩
    rw [h3 i (by simpa using hi)]
    by_cases e : i = o
    · subst e
      rw [if_neg (by omega), if_pos (by simp)]
      simp [hi]
    · by_cases e2 : o + 1 ≤ i ∧ i < o + 1 + r.length
      · rw [if_pos e2, if_pos (by simp; omega), show i - o = (i - (o + 1)) + 1 by omega, List.getElem?_cons_succ]
      · rw [if_neg e2, if_neg (by simp; omega)]
        simp [Array.getElem?_setIfInBounds, Ne.symm e]
theorem far_setCells {g b : Nat} {t : TypeId} {cs : Array Value} (hb : b ≠ g) : ∀ (vs : List Value) (W : World) (o : Nat), Blk W g t cs → Blk (W.setCells b o vs) g t cs
  | [], W, o, h => h
  | v :: r, W, o, h => far_setCells hb r _ (o + 1) (h.far o v hb)
theorem bel_setCellsM {g : Nat} {W : World} (hg : W.heap.size ≤ g) : ∀ (vs : List Value) (W' : World) (o : Nat), Below W.heap.size W W' → Below W.heap.size W (W'.setCells g o vs)
  | [], W', o, h => h
  | v :: r, W', o, h => bel_setCellsM hg r _ (o + 1) (bel_set h (by simpa using hg) v)
/-- A row of n elements of k cells: one element set. -/
theorem row_put {W : World} {g k n : Nat} {t : TypeId} {h : Nat → Nat → Value} (hB : Blk W g t (rowCs k n h)) {v : Nat} (hv : v < n) (c : Array Value) (hc : c.size = k) (h' : Nat → Nat → Value) (h1 : ∀ u j, u < n → j < k → h' u j = if u = v then c.getD j undef else h u j) :
    Blk (W.setCells g (v * k) c.toList) g t (rowCs k n h') := by
  obtain ⟨cs', b1, b2, b3⟩ := blk_setCells c.toList _ _ (v * k) hB
  rw [rowCs_size] at b2 b3
  have : cs' = rowCs k n h' := by
    refine Array.ext (by rw [b2, rowCs_size]) fun i hi hi2 => ?_
    have hik : i < n * k := by omega
    have hk : 0 < k := by
      rcases Nat.eq_zero_or_pos k with e | e
      · subst e; omega
      · exact e
    have i1 : i / k < n := by rw [Nat.div_lt_iff_lt_mul hk]; exact hik
    have i2 : i % k < k := Nat.mod_lt _ hk
    have i3 : i / k * k + i % k = i := by rw [Nat.mul_comm]; exact Nat.div_add_mod i k
    have e := b3 i hik
    rw [Array.length_toList, hc] at e
    have g1 : ∀ f : Nat → Nat → Value, (rowCs k n f)[i]? = some (f (i / k) (i % k)) := fun f => by
      have := rowCs_at (k := k) (n := n) f i1 i2
      rwa [i3] at this
    refine Option.some.inj ?_
    rw [← Array.getElem?_eq_getElem, ← Array.getElem?_eq_getElem, e, g1, g1, h1 _ _ i1 i2]
    by_cases hh : i / k = v
    · have : v * k + i % k = i := by rw [← hh]; exact i3
      rw [if_pos (by omega), if_pos hh, show i - v * k = i % k by omega, Array.getElem?_toList, Array.getD_eq_getD_getElem?, Array.getElem?_eq_getElem (by omega)]
      rfl
    · rw [if_neg, if_neg hh]
      intro hx
      apply hh
      have h1 : v ≤ i / k := (Nat.le_div_iff_mul_le hk).2 hx.1
      have h2 : i / k < v + 1 := by
        rw [Nat.div_lt_iff_lt_mul hk, Nat.add_mul, Nat.one_mul]
        exact hx.2
      omega
  rw [← this]
  exact b1
theorem there_row {W : World} {g n k : Nat} {t : TypeId} {h : Nat → Nat → Value} (hB : Blk W g t (rowCs k n h)) {v : Nat} (hv : v < n) : W.there g (v * k) k := fun j hj => by
  refine ⟨by rw [hB.cell, rowCs_at h hv hj]; rfl, hB.frozen _⟩
/-- A row of keys. -/
def kyN (k : Ky) (j : Nat) : Int := if j = 0 then k.1 else if j = 1 then k.2.1 else if j = 2 then k.2.2.1 else if j = 3 then k.2.2.2.1 else k.2.2.2.2
def kC (f : Nat → Ky) : Nat → Nat → Value := fun v j => .int .i64 (kyN (f v) j)
def ky0 : Ky := (0, 0, 0, 0, 0)
theorem ky_at (k : Ky) {j : Nat} (hj : j < 5) : (kyC k)[j]? = some (.int .i64 (kyN k j)) := by
  rcases (by omega : j = 0 ∨ j = 1 ∨ j = 2 ∨ j = 3 ∨ j = 4) with rfl | rfl | rfl | rfl | rfl <;> rfl
theorem pts_put {W : World} {g n : Nat} {t : TypeId} {f : Nat → P3} (h : Blk W g t (ptsC n f)) {v : Nat} (hv : v < n) (p : P3) : Blk (W.setCells g (v * 3) (#[.int .i64 p.x, .int .i64 p.y, .int .i64 p.z] : Array Value).toList) g t (ptsC n fun u => if u = v then p else f u) :=
  row_put h hv #[.int .i64 p.x, .int .i64 p.y, .int .i64 p.z] rfl _ fun u j hu hj => by
    unfold qC
    by_cases e : u = v
    · simp only [if_pos e]
      rcases (by omega : j = 0 ∨ j = 1 ∨ j = 2) with rfl | rfl | rfl <;> rfl
    · simp only [if_neg e]
theorem kys_put {W : World} {g n : Nat} {t : TypeId} {f : Nat → Ky} (h : Blk W g t (rowCs 5 n (kC f))) {v : Nat} (hv : v < n) (p : Ky) : Blk (W.setCells g (v * 5) (kyA p).toList) g t (rowCs 5 n (kC fun u => if u = v then p else f u)) :=
  row_put h hv (kyA p) rfl _ fun u j hu hj => by
    unfold kC
    by_cases e : u = v
    · simp only [if_pos e]
      rcases (by omega : j = 0 ∨ j = 1 ∨ j = 2 ∨ j = 3 ∨ j = 4) with rfl | rfl | rfl | rfl | rfl <;> rfl
    · simp only [if_neg e]
theorem pts_made (n : Nat) : madeCells #[.int .i64 0, .int .i64 0, .int .i64 0] (n * 3) = ptsC n fun _ => N3 := by
  rw [rowCs_made (k := 3) rfl (by omega)]
  refine rowCs_ext fun a b ha hb => ?_
  unfold qC
  rcases (by omega : b = 0 ∨ b = 1 ∨ b = 2) with rfl | rfl | rfl <;> rfl
theorem kys_made (n : Nat) : madeCells #[.int .i64 0, .int .i64 0, .int .i64 0, .int .i64 0, .int .i64 0] (n * 5) = rowCs 5 n (kC fun _ => ky0) := by
  rw [rowCs_made (k := 5) rfl (by omega)]
  refine rowCs_ext fun a b ha hb => ?_
  unfold kC kyN ky0
  rcases (by omega : b = 0 ∨ b = 1 ∨ b = 2 ∨ b = 3 ∨ b = 4) with rfl | rfl | rfl | rfl | rfl <;> rfl
theorem VL_pts {W : World} {g n : Nat} {t : TypeId} {f : Nat → P3} {L : List P3} (h : Blk W g t (ptsC n f)) (hnL : n = L.length) (hf : ∀ i (hi : i < L.length), f i = L[i]) : VL W (some ⟨g, 0, none⟩) L := fun hn => by
  subst hnL
  refine ⟨g, 0, rfl, h.lt, fun i hi => ?_⟩
  obtain ⟨h1, h2, h3⟩ := ptsB h hi
  rw [hf i hi] at h1 h2 h3
  rw [Nat.zero_add]
  exact ⟨h1, h2, h3⟩
theorem KL_kys {W : World} {g n : Nat} {t : TypeId} {f : Nat → Ky} {L : List Ky} (h : Blk W g t (rowCs 5 n (kC f))) (hnL : n = L.length) (hf : ∀ i (hi : i < L.length), f i = L[i]) : KL W (some ⟨g, 0, none⟩) L := fun hn => by
  subst hnL
  refine ⟨g, 0, rfl, h.lt, fun i hi j hj => ?_⟩
  rw [Nat.zero_add, h.cell, rowCs_at _ hi hj, ky_at _ hj]
  unfold kC
  rw [hf i hi]
/-- A block that was made. -/
def PBm (base : Nat) (t : TypeId) (cs : Array Value) : World → Value → Prop := fun w v => ∃ b, v = .pointer (some ⟨b, 0, none⟩) ∧ base ≤ b ∧ Blk w b t cs
theorem PBm.stays (base : Nat) (t : TypeId) (cs : Array Value) : Stays (PBm base t cs) := fun w w' v hB ⟨b, e, h0, h⟩ => ⟨b, e, h0, h.below hB⟩
/-- A row that was made. -/
def PRm (base n : Nat) (t : TypeId) (cs : Array Value) : World → Value → Prop := fun w v => ∃ b, v = .slice (some ⟨b, 0, none⟩) n n ∧ base ≤ b ∧ Blk w b t cs
theorem PRm.stays (base n : Nat) (t : TypeId) (cs : Array Value) : Stays (PRm base n t cs) := fun w w' v hB ⟨b, e, h0, h⟩ => ⟨b, e, h0, h.below hB⟩
def PMm (base n : Nat) (t1 t2 : TypeId) (c1 c2 : Array Value) (z : Value) : World → Value → Prop := fun w v => ∃ b1 b2, v = .agg #[.slice (some ⟨b1, 0, none⟩) n n, .slice (some ⟨b2, 0, none⟩) n n, z] ∧ base ≤ b1 ∧ base ≤ b2 ∧ Blk w b1 t1 c1 ∧ Blk w b2 t2 c2
theorem PMm.stays (base n : Nat) (t1 t2 : TypeId) (c1 c2 : Array Value) (z : Value) : Stays (PMm base n t1 t2 c1 c2 z) := fun w w' v hB ⟨b1, b2, e, h0, h1, h2, h3⟩ => ⟨b1, b2, e, h0, h1, h2.below hB, h3.below hB⟩
theorem infoMs {a b c : Value} : (Try.prog.info? 38).map (·.size) = some (#[a, b, c] : Array Value).size := by kernel_rfl
theorem infoKm : (Try.prog.info? 59).map (fun i => (i.zero, i.size, i.bytes)) = some (some (.agg #[.int .i64 0, .int .i64 0, .int .i64 0, .int .i64 0, .int .i64 0]), 5, 40) := by kernel_rfl
theorem infoVq : (Try.prog.info? 23).map (fun i => (i.zero, i.size, i.bytes)) = some (some (.agg #[.int .i64 0, .int .i64 0, .int .i64 0]), 3, 24) := by kernel_rfl
theorem info_ofM {t : TypeId} {z : Value} {a b : Nat} (h : (Try.prog.info? t).map (fun i => (i.zero, i.size, i.bytes)) = some (some z, a, b)) : ∃ i : TypeInfo, Try.prog.info? t = some i ∧ i.zero = some z ∧ i.size = a ∧ i.bytes = b := by
  cases hi : Try.prog.info? t with
  | none => rw [hi] at h; cases h
  | some i =>
    rw [hi] at h
    simp only [Option.map_some, Option.some.injEq, Prod.mk.injEq] at h
    exact ⟨i, rfl, h.1, h.2.1, h.2.2⟩
theorem makeV_run (w : World) (n : Nat) (hn : n ≤ 100000) : (Instr.makeSlice 34 (.int .i64 (n : Int)) (.int .i64 (n : Int))).run Try.prog w = .ok (.slice (some ⟨w.heap.size, 0, none⟩) n n) (w.alloc (.cells (ptsC n fun _ => N3) 23)) := by
  obtain ⟨i0, hi0, hz0, hz1, hz2⟩ := info_ofM infoVq
  have := run_make (P := Try.prog) w 34 23 i0 _ Try.underlying34 hi0 hz0 .i64 .i64 n n (by omega) (Int.le_refl _) (by rw [hz2]; omega) (by omega)
  simp only [Int.toNat_natCast, hz1] at this
  rw [this, ← pts_made]
  rfl
theorem makeK_run (w : World) (n : Nat) (hn : n ≤ 100000) : (Instr.makeSlice 35 (.int .i64 (n : Int)) (.int .i64 (n : Int))).run Try.prog w = .ok (.slice (some ⟨w.heap.size, 0, none⟩) n n) (w.alloc (.cells (rowCs 5 n (kC fun _ => ky0)) 59)) := by
  obtain ⟨i0, hi0, hz0, hz1, hz2⟩ := info_ofM infoKm
  have := run_make (P := Try.prog) w 35 59 i0 _ Try.underlying35 hi0 hz0 .i64 .i64 n n (by omega) (Int.le_refl _) (by rw [hz2]; omega) (by omega)
  simp only [Int.toNat_natCast, hz1] at this
  rw [this, ← kys_made]
  rfl
theorem ret2M {fn : Func} {p u : Tmp} (h : fn.results = #[.cell p 38, .tmp u]) (tmps : Array Value) (w : World) (g : Nat) (x y z : Value) (b : Value) (hp : tmps.getD p undef = .pointer (some ⟨g, 0, none⟩)) (hb : tmps.getD u undef = b) (hB : Blk w g 38 #[x, y, z]) :
    (results fn tmps).run Try.prog w = .ok (.tuple #[.agg #[x, y, z], b]) w := by
  have hl := run_loadVar_row (P := Try.prog) w g 38 38 #[x, y, z] (0, 0) _ hB Try.underlying38 rfl infoMs
  rw [results_cell_tmp h, hp, hb]
  simp [asAddr, hl, Result.andThen]
end Go.Proofs.Ytpaehkjnefgaiaa
namespace Go.Proofs.Ytpaehkjnefgaiaa
open Go.RowKit
set_option linter.unusedVariables false
set_option linter.unusedSimpArgs false
set_option linter.unnecessarySimpa false
set_option maxRecDepth 100000
theorem alloc_Ms (a : Act) (o : Oper) (ho : o.op = .alloc 38) (w : World) : (execOp a.eval o).run Try.prog w = .ok (.value (.pointer (some ⟨w.heap.size, 0, none⟩))) (w.alloc (.cells #[.slice none 0 0, .slice none 0 0, .slice none 0 0] 38)) := by
  unfold execOp
  rw [ho]
  kernel_rfl
theorem putM {ops : Array Oper} {rest : List Oper} {o : Oper} {a : Act} {w : World} {Q : Exit → Act → World → Prop} (hgd : o.guard = none) (x y : Operand) (ho : o.op = .store 38 x y) (g : Nat) (p q r : Value) (hx : a.eval x = .pointer (some ⟨g, 0, none⟩)) (hy : a.eval y = .agg #[p, q, r]) (hp : p.oneCell' = true ∧ q.oneCell' = true ∧ r.oneCell' = true) (old : Array Value) (hs : old.size = 3) (h : Blk w g 38 old)
    (K : wpList Try.prog ops Q rest (a.put o.dst undef) (w.setRow g #[p, q, r])) : wpList Try.prog ops Q (o :: rest) a w :=
  wpList_store_row hgd 38 x y ho g _ hx hy 38 old h infoMs hs (by simp [hp.1, hp.2.1, hp.2.2]) K
theorem getM {ops : Array Oper} {rest : List Oper} {o : Oper} {a : Act} {w : World} {Q : Exit → Act → World → Prop} (hgd : o.guard = none) (x : Operand) (ho : o.op = .load 38 x) (g : Nat) (hx : a.eval x = .pointer (some ⟨g, 0, none⟩)) (p q r : Value) (h : Blk w g 38 #[p, q, r])
    (K : wpList Try.prog ops Q rest (a.put o.dst (.agg #[p, q, r])) w) : wpList Try.prog ops Q (o :: rest) a w :=
  wpList_load_row hgd 38 x ho g hx 38 _ (0, 0) _ h Try.underlying38 rfl infoMs K
theorem sizeQ (q : Nat → Int) : (Try.prog.info? 25).map (·.size) = some (q4C q).toList.length := by kernel_rfl
theorem DcB.rates {W : World} {g : Nat} {P : Pch} {cage id : Int} {q : Nat → Int} {M : Int} {tv : Value} {h : Int} (d : DcB W g P cage id q M tv h) : W.rangeAt g 67 (q4C q).toList := by
  intro j v hv
  have hj : j < 4 := (List.getElem?_eq_some_iff.1 hv).1
  rw [d.q j hj, ← hv]
  rcases (by omega : j = 0 ∨ j = 1 ∨ j = 2 ∨ j = 3) with rfl | rfl | rfl | rfl <;> rfl
/-- The row of places lies in a block of its own, behind what was there. -/
def FrV (W : World) (base : Nat) (A1 A2 A3 : Option Addr) (n3 : Nat) : Prop := ((∀ b o, A2 = some ⟨b, o, none⟩ → base ≤ b) ∧ ∀ b o, A3 = some ⟨b, o, none⟩ → base ≤ b) ∧ ∀ b o, A1 = some ⟨b, o, none⟩ → o = 0 ∧ base ≤ b ∧ (∃ cs, Blk W b 23 cs) ∧ (∀ b' o', A2 = some ⟨b', o', none⟩ → b' ≠ b) ∧ (0 < n3 → ∀ b' o', A3 = some ⟨b', o', none⟩ → b' ≠ b)
/-- What a mesh's value is: rows of vertices, of keys, of triangles. -/
def MsV (base : Nat) (W : World) (e : Ending) (m : Msh) : Prop := ∃ (A1 A2 A3 : Option Addr) (c1 c2 c3 : Nat), e = .returned (.tuple #[.agg #[.slice A1 m.vs.length c1, .slice A2 m.ks.length c2, .slice A3 m.ts.length c3], .int .i64 0]) ∧ VL W A1 m.vs ∧ KL W A2 m.ks ∧ L3 W A3 m.ts ∧ FrV W base A1 A2 A3 m.ts.length
def MsX (e : Ending) (x : Int) : Prop := e = .returned (.tuple #[.agg #[.slice none 0 0, .slice none 0 0, .slice none 0 0], .int .i64 x])
theorem cell_farRow {W : World} {g b j : Nat} (cs : Array Value) (h : b ≠ g) : (W.setRow g cs).cell? ⟨b, j, none⟩ = W.cell? ⟨b, j, none⟩ := by
  unfold World.cell?
  rw [show (W.setRow g cs).heap[b]? = W.heap[b]? from setRow_other W g b cs h]
/-- Triangles lie apart from a mesh's own block. -/
theorem L3_far {W : World} {A : Option Addr} {l : List Spt} {g : Nat} {t : TypeId} {a1 a2 a3 : Option Addr} {n1 n2 n3 c1 c2 c3 : Nat} (h : L3 W A l) (hB : Blk W g t #[.slice a1 n1 c1, .slice a2 n2 c2, .slice a3 n3 c3]) (cs : Array Value) : L3 (W.setRow g cs) A l := fun h0 => by
  obtain ⟨b, off, e, hl, hc⟩ := h h0
  have hne : b ≠ g := by
    rintro rfl
    have h1 := (hc 0 h0).1
    rw [hB.cell] at h1
    rcases (by omega : off + 0 * 3 = 0 ∨ off + 0 * 3 = 1 ∨ off + 0 * 3 = 2 ∨ 3 ≤ off + 0 * 3) with e | e | e | e
    · rw [e] at h1; simp at h1
    · rw [e] at h1; simp at h1
    · rw [e] at h1; simp at h1
    · rw [Array.getElem?_eq_none (by simpa using e)] at h1; cases h1
  refine ⟨b, off, e, ?_, fun i hi => ?_⟩
  · have : (W.setRow g cs).heap.size = W.heap.size := size_setRow _ _ _
    omega
  · obtain ⟨h1, h2, h3⟩ := hc i hi
    exact ⟨(cell_farRow cs hne).trans h1, (cell_farRow cs hne).trans h2, (cell_farRow cs hne).trans h3⟩
theorem upto_next {α : Type} {L : List α} {β : Type} (F : α → β) (z : β) {k : Nat} (hk : k < L.length) : (fun u => if u = k then F L[k] else (if h : u < L.length then (if u < k then F L[u] else z) else z)) = fun u => if h : u < L.length then (if u < k + 1 then F L[u] else z) else z := by
  funext u
  by_cases e : u = k
  · subst e
    rw [if_pos rfl, dif_pos hk, if_pos (by omega)]
  · rw [if_neg e]
    by_cases h : u < L.length
    · rw [dif_pos h, dif_pos h]
      by_cases h2 : u < k
      · rw [if_pos h2, if_pos (by omega)]
      · rw [if_neg h2, if_neg (by omega)]
    · rw [dif_neg h, dif_neg h]
theorem wv_ok {W' : World} {q : Nat → Int} {e : Ending} (hq : okQ q) (h : WvB W' q e) : ∃ (A1 A2 : Option Addr) (c1 c2 : Nat), e = .returned (.tuple #[.slice A1 (spotsW (rQ q)).length c1, .slice A2 (trisW (rQ q)).length c2, .bool true]) ∧ L3 W' A1 (spotsW (rQ q)) ∧ L3 W' A2 ((trisW (rQ q)).map trZ) := by
  rcases h with ⟨_, A1, A2, c1, c2, e1, e2, e3, e4, e5⟩ | ⟨e1, _⟩
  · exact ⟨A1, A2, c1, c2, e1, e4, e5⟩
  · exact absurd hq e1
theorem weaveC (W : World) (q : Nat → Int) (hq : okQ q) : Calls Try.prog 43 #[.agg (q4C q)] W fun e W' => Below W.heap.size W W' ∧ ∃ (A1 A2 : Option Addr) (c1 c2 : Nat), e = .returned (.tuple #[.slice A1 (spotsW (rQ q)).length c1, .slice A2 (trisW (rQ q)).length c2, .bool true]) ∧ L3 W' A1 (spotsW (rQ q)) ∧ L3 W' A2 ((trisW (rQ q)).map trZ) ∧ ∀ b o, A2 = some ⟨b, o, none⟩ → W.heap.size ≤ b :=
  (weaveF W q (fun k hk => by have := hq k hk; unfold i64W; omega)).mono fun e W' ⟨hb, h, hf⟩ => by
    obtain ⟨A1, A2, c1, c2, rfl, h1, h2⟩ := wv_ok hq h
    exact ⟨hb, A1, A2, c1, c2, rfl, h1, h2, fun b o e => by subst e; exact hf _ _ b o _ _ rfl⟩
set_option maxHeartbeats 8000000 in
theorem cut_any (W : World) (g : Nat) (P : Pch) (cage id : Int) (q : Nat → Int) (tv : Value) (h : Int) (hD : DcB W g P cage id q (mxI q 4) tv h) (hq : okQ q) (VF : Spt → P3) (ok : Bool) (hz : ok = false → ∀ s, VF s = N3)
    (kV : ∀ u, Below W.heap.size W u → ∀ s, spIn q s → Calls Try.prog 44 #[.pointer (some ⟨g, 0, none⟩), .agg #[.int .i64 s.1, .int .i64 s.2.1, .int .i64 s.2.2]] u fun e w' => e = .returned (.tuple #[.agg #[.int .i64 (VF s).x, .int .i64 (VF s).y, .int .i64 (VF s).z], .bool ok]) ∧ Below u.heap.size u w') :
    Calls Try.prog 26 #[.pointer (some ⟨g, 0, none⟩)] W fun e W' => Below W.heap.size W W' ∧ (if ok = true then MsV W.heap.size W' e ⟨(spotsW (rQ q)).map VF, (spotsW (rQ q)).map (msK P.co cage id q), (trisW (rQ q)).map trZ⟩ else MsX e 11) := by
  obtain ⟨W0, hW0⟩ : ∃ W0, W0 = W.alloc (.cells #[.slice none 0 0, .slice none 0 0, .slice none 0 0] 38) := ⟨_, rfl⟩
  have hb0 : Below W.heap.size W W0 := by rw [hW0]; exact bel_alloc (Below.refl _ _) _
  have hR0 : Blk W0 W.heap.size 38 #[.slice none 0 0, .slice none 0 0, .slice none 0 0] := by rw [hW0]; exact Blk.new _ _ _ _ rfl
  have hD0 := hD.below hb0
  have hbW0 := hb0.size
  have kW := weaveC W0 q hq
  have hls : (spotsW (rQ q)).length ≤ 400 := spotsW_lt (okQ_r hq)
  have hsp : ∀ s ∈ spotsW (rQ q), spIn q s := fun s hs => spIn_of hq hs
  have hlp : 0 < (spotsW (rQ q)).length := by rw [spotsW_len (okQ_r hq)]; have := (okQ_r hq 0 (by omega)).1; omega
  have kKf := fun (u : World) (hu : Below W.heap.size W u) (s : Spt) (hs : spIn q s) => key_any u g P cage id q tv h (hD.below hu) hq hs
  go_enter Try.func26, Try.ntmps26
  go_upto_region 1 with (fail)
  simp only [← hW0]
  clear hW0
  have gl := hD0.lt
  obtain ⟨rb, hrb⟩ : ∃ b, b = W.heap.size := ⟨_, rfl⟩
  rw [← hrb] at hR0
  simp only [← hrb]
  have hrW : W.heap.size ≤ rb := by omega
  replace hrb := Lib.hid hrb
  have hrl := hR0.lt
  go_upto_region 2 with (first | (refine loadR rfl 25 _ Try.underlying25 rfl _ rfl g 67 rfl (q4C q) (sizeQ q) hD0.rates ?_; simp only [Act.put, List.setIfInBounds_toArray, List.set_cons_succ, List.set_cons_zero]) | (go_at_call 43; (with_reducible refine kW.mono ?_); rintro e W1 ⟨hb1, A1, A2, c1, c2, rfl, hL1, hL2, hA2f⟩) | fail)
  have hb01 := bel_trans hb0 hb1
  have hR1 := hR0.below hb1
  clear hD0 kW gl hrl hR0 hb0 hb1
  generalize hLd : spotsW (rQ q) = L at *
  replace hLd := Lib.hid hLd
  obtain ⟨n, hn⟩ : ∃ n, n = L.length := ⟨_, rfl⟩
  obtain ⟨nt, hnt⟩ : ∃ n, n = (trisW (rQ q)).length := ⟨_, rfl⟩
  rw [← hn] at hls hlp ⊢
  rw [← hnt]
  replace hn := Lib.hid hn
  replace hnt := Lib.hid hnt
  refine wp_region_monoT 9 (RL [PE (.slice A1 n c1), PE (.int .i64 (n : Int)), PRm W1.heap.size n 23 (ptsC n fun _ => N3), PE (.slice A1 n c1), PE (.int .i64 (n : Int)), PRm W1.heap.size n 59 (rowCs 5 n (kC fun _ => ky0)), PE (.slice A2 nt c2), PMm W1.heap.size n 23 59 (ptsC n fun _ => N3) (rowCs 5 n (kC fun _ => ky0)) (.slice A2 nt c2), PBm W1.heap.size 38 #[.slice none 0 0, .slice none 0 0, .slice none 0 0]]) (by kernel_rfl) _ rfl (by kernel_rfl) (by kernel_rfl) (by kernel_rfl) (by kernel_rfl) (by kernel_rfl) (RL.stays ?_) ?_ ?_
  · intro p hp
    simp only [List.mem_cons, List.not_mem_nil, or_false] at hp
    rcases hp with rfl | rfl | rfl | rfl | rfl | rfl | rfl | rfl | rfl <;> first | exact PE.stays _ | exact PV.stays _ _ _ | exact PBm.stays _ _ _ | exact PRm.stays _ _ _ _ | exact PMm.stays _ _ _ _ _ _ _
  · simp only [List.take_succ_cons, List.take_zero]
    refine ⟨?_, ?_, ?_, ?_, ?_, ?_, ?_, ?_, ?_, ?_⟩
    · refine mono_val rfl (fun a w hB hk hp => ?_)
      have es4 := (hk 4 (keep_of (by kernel_rfl))).trans (show _ = some (.slice A1 n c1) from rfl)
      exact ⟨.slice A1 n c1, w, by simp [execOp, go_sem, es4], Below.refl _ _, fun _ _ => rfl⟩
    · refine mono_val rfl (fun a w hB hk hp => ?_)
      obtain ⟨x0, ex0, rx0⟩ := hp ⟨0, .data⟩ (by simp) rfl _ _ rfl rfl
      obtain rfl : x0 = _ := rx0
      exact ⟨.int .i64 (n : Int), w, by simp [execOp, go_sem, ex0], Below.refl _ _, fun _ _ => rfl⟩
    · refine mono_val rfl (fun a w hB hk hp => ?_)
      obtain ⟨x1, ex1, rx1⟩ := hp ⟨1, .data⟩ (by simp) rfl _ _ rfl rfl
      obtain rfl : x1 = _ := rx1
      have hr := makeV_run w n (by omega)
      exact ⟨.slice (some ⟨w.heap.size, 0, none⟩) n n, _, by simp [execOp, go_sem, ex1, hr], bel_alloc (Below.refl _ _) _, fun _ _ => ⟨w.heap.size, rfl, hB.size, Blk.new _ _ _ _ rfl⟩⟩
    · refine mono_val rfl (fun a w hB hk hp => ?_)
      have es4 := (hk 4 (keep_of (by kernel_rfl))).trans (show _ = some (.slice A1 n c1) from rfl)
      exact ⟨.slice A1 n c1, w, by simp [execOp, go_sem, es4], Below.refl _ _, fun _ _ => rfl⟩
    · refine mono_val rfl (fun a w hB hk hp => ?_)
      obtain ⟨x3, ex3, rx3⟩ := hp ⟨3, .data⟩ (by simp) rfl _ _ rfl rfl
      obtain rfl : x3 = _ := rx3
      exact ⟨.int .i64 (n : Int), w, by simp [execOp, go_sem, ex3], Below.refl _ _, fun _ _ => rfl⟩
    · refine mono_val rfl (fun a w hB hk hp => ?_)
      obtain ⟨x4, ex4, rx4⟩ := hp ⟨4, .data⟩ (by simp) rfl _ _ rfl rfl
      obtain rfl : x4 = _ := rx4
      have hr := makeK_run w n (by omega)
      exact ⟨.slice (some ⟨w.heap.size, 0, none⟩) n n, _, by simp [execOp, go_sem, ex4, hr], bel_alloc (Below.refl _ _) _, fun _ _ => ⟨w.heap.size, rfl, hB.size, Blk.new _ _ _ _ rfl⟩⟩
    · refine mono_val rfl (fun a w hB hk hp => ?_)
      have es5 := (hk 5 (keep_of (by kernel_rfl))).trans (show _ = some (.slice A2 nt c2) from rfl)
      exact ⟨.slice A2 nt c2, w, by simp [execOp, go_sem, es5], Below.refl _ _, fun _ _ => rfl⟩
    · refine mono_val rfl (fun a w hB hk hp => ?_)
      obtain ⟨x2, ex2, rx2⟩ := hp ⟨2, .data⟩ (by simp) rfl _ _ rfl rfl
      obtain ⟨bv, rfl, hv0, hv1⟩ : PRm W1.heap.size n 23 (ptsC n fun _ => N3) w x2 := rx2
      obtain ⟨x5, ex5, rx5⟩ := hp ⟨5, .data⟩ (by simp) rfl _ _ rfl rfl
      obtain ⟨bk, rfl, hk0, hk1⟩ : PRm W1.heap.size n 59 (rowCs 5 n (kC fun _ => ky0)) w x5 := rx5
      obtain ⟨x6, ex6, rx6⟩ := hp ⟨6, .data⟩ (by simp) rfl _ _ rfl rfl
      obtain rfl : x6 = _ := rx6
      exact ⟨.agg #[.slice (some ⟨bv, 0, none⟩) n n, .slice (some ⟨bk, 0, none⟩) n n, .slice A2 nt c2], w, by simp [execOp, go_sem, ex2, ex5, ex6], Below.refl _ _, fun _ _ => ⟨bv, bk, rfl, hv0, hk0, hv1, hk1⟩⟩
    · refine mono_val rfl (fun a w hB hk hp => ?_)
      exact ⟨.pointer (some ⟨w.heap.size, 0, none⟩), w.alloc (.cells #[.slice none 0 0, .slice none 0 0, .slice none 0 0] 38), alloc_Ms _ _ rfl w, bel_alloc (Below.refl _ _) _, fun _ _ => ⟨w.heap.size, rfl, hB.size, Blk.new _ _ _ _ rfl⟩⟩
    · trivial
  · intro a W2 hB hsz hdf hk hgot
    obtain ⟨v7, ev7, rv7⟩ := hgot 7 _ 28 rfl rfl
    obtain ⟨bv, bk, rfl, hv0, hk0, hv1, hk1⟩ : PMm W1.heap.size n 23 59 (ptsC n fun _ => N3) (rowCs 5 n (kC fun _ => ky0)) (.slice A2 nt c2) W2 v7 := rv7
    obtain ⟨v8, ev8, rv8⟩ := hgot 8 _ 7 rfl rfl
    obtain ⟨mb, rfl, hm0, hm1⟩ : PBm W1.heap.size 38 #[.slice none 0 0, .slice none 0 0, .slice none 0 0] W2 v8 := rv8
    obtain ⟨f, hf, rfl⟩ := frame_eq hsz hdf hk [21, 22, 23, 24, 25, 26, 27, 28, 7] (by rfl)
    have f28 := hf 28 _ ev7
    have f7 := hf 7 _ ev8
    clear hsz hdf hk hgot hf ev7 ev8
    simp only [List.drop_succ_cons, List.drop_zero, setAll, List.setIfInBounds_toArray, List.set_cons_succ, List.set_cons_zero, f28, f7]
    clear f28 f7
    generalize f 21 = uu21; generalize f 22 = uu22; generalize f 23 = uu23; generalize f 24 = uu24; generalize f 25 = uu25; generalize f 26 = uu26; generalize f 27 = uu27
    have hmv : bv ≠ mb := hv1.ne_ hm1 (by decide)
    have hmk : bk ≠ mb := hk1.ne_ hm1 (by decide)
    have hvk : bv ≠ bk := hv1.ne_ hk1 (by decide)
    have hrm : rb ≠ mb := by have := hR1.lt; omega
    have hR2 := (hR1.below hB).farRow (b := mb) #[.slice (some ⟨bv, 0, none⟩) n n, .slice (some ⟨bk, 0, none⟩) n n, .slice A2 nt c2] (Ne.symm hrm)
    have hV2 := hv1.farRow (b := mb) #[.slice (some ⟨bv, 0, none⟩) n n, .slice (some ⟨bk, 0, none⟩) n n, .slice A2 nt c2] (Ne.symm hmv)
    have hK2 := hk1.farRow (b := mb) #[.slice (some ⟨bv, 0, none⟩) n n, .slice (some ⟨bk, 0, none⟩) n n, .slice A2 nt c2] (Ne.symm hmk)
    have hM2 := hm1.setRow #[.slice (some ⟨bv, 0, none⟩) n n, .slice (some ⟨bk, 0, none⟩) n n, .slice A2 nt c2]
    have hB2 : Below W1.heap.size W1 (W2.setRow mb #[.slice (some ⟨bv, 0, none⟩) n n, .slice (some ⟨bk, 0, none⟩) n n, .slice A2 nt c2]) := bel_setRow hB hm0 _
    go_upto_region 3 with (first | (refine putM rfl _ _ rfl mb _ _ _ rfl rfl ⟨rfl, rfl, rfl⟩ _ rfl hm1 ?_; simp only [Act.put, List.setIfInBounds_toArray, List.set_cons_succ, List.set_cons_zero]) | fail)
    generalize (W2.setRow mb #[.slice (some ⟨bv, 0, none⟩) n n, .slice (some ⟨bk, 0, none⟩) n n, .slice A2 nt c2]) = W3 at *
    clear hv1 hk1 hm1 hB W2
    go_wp2
    go_loopw [31] (fun iv wr => ∃ k : Nat, iv = .int .i64 (k : Int) ∧ k ≤ n ∧ Below W1.heap.size W1 wr ∧ Blk wr mb 38 #[.slice (some ⟨bv, 0, none⟩) n n, .slice (some ⟨bk, 0, none⟩) n n, .slice A2 nt c2] ∧ Blk wr bv 23 (ptsC n fun u => if h : u < L.length then (if u < k then VF L[u] else N3) else N3) ∧ Blk wr bk 59 (rowCs 5 n (kC fun u => if h : u < L.length then (if u < k then msK P.co cage id q L[u] else ky0) else ky0)) ∧ (ok = false → k = 0)) (fun iv _ => n - (intOf iv).toNat)
    case atStart => exact ⟨0, rfl, by omega, hB2, hM2, by simpa using hV2, by simpa using hK2, fun _ => rfl⟩
    case round =>
      obtain ⟨k, rfl, hk, hBr, hMr, hVr, hKr, hok⟩ := hrel
      have hbW := bel_trans hb01 hBr
      by_cases hkn : k < n
      · have hkl : k < L.length := by rw [← hn.out]; exact hkn
        have hL1r := hL1.below hBr
        obtain ⟨bl, ol, rfl, hbl, hcl⟩ := hL1r (by omega)
        obtain ⟨s0, s1, s2⟩ := hcl k hkl
        have hss := hsp _ (List.getElem_mem hkl)
        have hf := upto_next VF N3 hkl
        have hg := upto_next (msK P.co cage id q) ky0 hkl
        clear hcl hL1r
        generalize L[k] = s at *
        have q0 : (0 : Int) ≤ (k : Int) := by omega
        have q1 : (k : Int) < (n : Int) := by omega
        have hx1 := bel_alloc hBr (.cells #[.int .i64 s.1, .int .i64 s.2.1, .int .i64 s.2.2] 79)
        have hxW := bel_alloc hbW (.cells #[.int .i64 s.1, .int .i64 s.2.1, .int .i64 s.2.2] 79)
        have hM3 := hMr.alloc (.cells #[.int .i64 s.1, .int .i64 s.2.1, .int .i64 s.2.2] 79)
        have hV3 := hVr.alloc (.cells #[.int .i64 s.1, .int .i64 s.2.1, .int .i64 s.2.2] 79)
        have hK3 := hKr.alloc (.cells #[.int .i64 s.1, .int .i64 s.2.1, .int .i64 s.2.2] 79)
        have hxb : Blk (wr.alloc (.cells #[.int .i64 s.1, .int .i64 s.2.1, .int .i64 s.2.2] 79)) wr.heap.size 79 #[.int .i64 s.1, .int .i64 s.2.1, .int .i64 s.2.2] := Blk.new _ _ _ _ rfl
        go_upto_region 6 with (fail)
        have kVs := kV _ hxW s hss
        clear s0 s1 s2 hbl hBr hMr hVr hKr hbW
        generalize wr.alloc (.cells #[.int .i64 s.1, .int .i64 s.2.1, .int .i64 s.2.2] 79) = W4 at *
        generalize wr.heap.size = xb at *
        generalize hp : VF s = p at *
        replace hp := Lib.hid hp
        go_upto_region 7 with (first | (refine getS rfl _ rfl xb rfl s hxb ?_; simp only [Act.put, List.setIfInBounds_toArray, List.set_cons_succ, List.set_cons_zero]) | (go_at_call 44; (with_reducible refine kVs.mono ?_); rintro e W5 ⟨rfl, hb5⟩) | fail)
        have hxr := bel_alloc (bel_trans hx1 hb5) (.cells #[.int .i64 p.x, .int .i64 p.y, .int .i64 p.z] 23)
        have hxW5 := bel_alloc (bel_trans hxW hb5) (.cells #[.int .i64 p.x, .int .i64 p.y, .int .i64 p.z] 23)
        have hmr := (hM3.below hb5).alloc (.cells #[.int .i64 p.x, .int .i64 p.y, .int .i64 p.z] 23)
        have hvr := (hV3.below hb5).alloc (.cells #[.int .i64 p.x, .int .i64 p.y, .int .i64 p.z] 23)
        have hkr := (hK3.below hb5).alloc (.cells #[.int .i64 p.x, .int .i64 p.y, .int .i64 p.z] 23)
        have hxb5 := (hxb.below hb5).alloc (.cells #[.int .i64 p.x, .int .i64 p.y, .int .i64 p.z] 23)
        have hpb : Blk (W5.alloc (.cells #[.int .i64 p.x, .int .i64 p.y, .int .i64 p.z] 23)) W5.heap.size 23 #[.int .i64 p.x, .int .i64 p.y, .int .i64 p.z] := Blk.new _ _ _ _ rfl
        have hlv : bv < W5.heap.size := Nat.lt_of_lt_of_le hV3.lt hb5.size
        clear hxb hM3 hV3 hK3 hx1 hxW hb5 kVs
        generalize W5.alloc (.cells #[.int .i64 p.x, .int .i64 p.y, .int .i64 p.z] 23) = W6 at *
        generalize W5.heap.size = vb at *
        cases ok
        · have hRr := hR1.below hxr
          go_wp2_with (first | (refine putM rfl _ _ rfl rb _ _ _ rfl rfl ⟨rfl, rfl, rfl⟩ _ rfl hRr ?_; simp only [Act.put, List.setIfInBounds_toArray, List.set_cons_succ, List.set_cons_zero]) | fail)
          exact bodyPost_ret (ret2M (p := 2) (u := 3) rfl _ _ rb _ _ _ _ rfl rfl (hRr.setRow _)) rfl ⟨bel_setRow hxW5 hrW _, rfl⟩
        · go_upto_region 9 with (fail)
          obtain ⟨f0, hf0⟩ : ∃ f : Nat → P3, f = fun u => if h : u < L.length then (if u < k then VF L[u] else N3) else N3 := ⟨_, rfl⟩
          obtain ⟨f1, hf1⟩ : ∃ f : Nat → P3, f = fun u => if h : u < L.length then (if u < k + 1 then VF L[u] else N3) else N3 := ⟨_, rfl⟩
          obtain ⟨g0, hg0⟩ : ∃ f : Nat → Ky, f = fun u => if h : u < L.length then (if u < k then msK P.co cage id q L[u] else ky0) else ky0 := ⟨_, rfl⟩
          obtain ⟨g1, hg1⟩ : ∃ f : Nat → Ky, f = fun u => if h : u < L.length then (if u < k + 1 then msK P.co cage id q L[u] else ky0) else ky0 := ⟨_, rfl⟩
          have hfx : f1 = fun u => if u = k then p else f0 u := by rw [hf1, ← hf, hf0]
          have hgx : g1 = fun u => if u = k then msK P.co cage id q s else g0 u := by rw [hg1, ← hg, hg0]
          rw [← hf0] at hvr
          rw [← hg0] at hkr
          replace hf1' := Lib.hid hf1
          replace hg1' := Lib.hid hg1
          replace hf1 := Lib.hid hfx
          replace hg1 := Lib.hid hgx
          clear hf hg hf0 hg0 hfx hgx
          have kK := fun (u : World) (hu : Below W1.heap.size W1 u) => kKf u (bel_trans hb01 hu) s hss
          generalize msK P.co cage id q s = ky at *
          have hvb := hv0
          have hkb := hk0
          have nmv := hmv
          have nmk := hmk
          have nxv : bv ≠ xb := hvr.ne_ hxb5 (by decide)
          have nvv : bv ≠ vb := by omega
          have nkv := hvk
          have nxk : bk ≠ xb := hkr.ne_ hxb5 (by decide)
          have nvk : bk ≠ vb := hkr.ne_ hpb (by decide)
          have nvb := Ne.symm hvk
          have hxb := hxb5
          clear hxb5 kV kKf hL1 hL2 hxW5
          refine wp_region_monoK2 14 (RKW [.pointer (some ⟨mb, 0, none⟩), .slice (some ⟨bv, 0, none⟩) n n, .int .i64 (k : Int), .pointer (some ⟨mb, 1, none⟩), .slice (some ⟨bk, 0, none⟩) n n, .int .i64 (k : Int), .agg #[.int .i64 p.x, .int .i64 p.y, .int .i64 p.z], .pointer (some ⟨g, 0, none⟩), .agg #[.int .i64 s.1, .int .i64 s.2.1, .int .i64 s.2.2], .agg (kyA ky), .pointer (some ⟨bv, k * 3, none⟩), .int .i64 0, .pointer (some ⟨bk, k * 5, none⟩), .int .i64 0]) (JN (fun u => Below W1.heap.size W1 u ∧ Blk u mb 38 #[.slice (some ⟨bv, 0, none⟩) n n, .slice (some ⟨bk, 0, none⟩) n n, .slice A2 nt c2] ∧ Blk u xb 79 #[.int .i64 s.1, .int .i64 s.2.1, .int .i64 s.2.2] ∧ Blk u vb 23 #[.int .i64 p.x, .int .i64 p.y, .int .i64 p.z]) [11, 13] (fun j u => Blk u bv 23 (ptsC n (if j = 0 then f0 else f1)) ∧ Blk u bk 59 (rowCs 5 n (kC (if j ≤ 1 then g0 else g1))))) (by kernel_rfl) _ rfl (by kernel_rfl) (by kernel_rfl) (by kernel_rfl) (by kernel_rfl) (by kernel_rfl) (jn_start (by decide) (⟨bel_dr hxr _, hmr, hxb, hpb⟩) (⟨hvr, hkr⟩)) ?_ ?_
          · simp only [List.take_succ_cons, List.take_zero]
            refine ⟨?_, ?_, ?_, ?_, ?_, ?_, ?_, ?_, ?_, ?_, ?_, ?_, ?_, ?_, ?_⟩
            · refine jn_val rfl (by decide) (fun a u hF hX hk hp => ?_)
              have es7 := (hk 7 (keep_of (by kernel_rfl))).trans (show _ = some (.pointer (some ⟨mb, 0, none⟩)) from rfl)
              exact ⟨_, by simp [execOp, go_sem, es7], rfl⟩
            · refine jn_val rfl (by decide) (fun a u hF hX hk hp => ?_)
              obtain ⟨x0, ex0, rx0⟩ := hp ⟨0, .data⟩ (by simp) rfl _ _ rfl rfl
              obtain rfl : x0 = _ := rx0
              have fc0 := hF.2.1.cell 0
              exact ⟨_, by simp [execOp, go_sem, ex0, fc0], rfl⟩
            · refine jn_val rfl (by decide) (fun a u hF hX hk hp => ?_)
              have es8 := (hk 8 (keep_of (by kernel_rfl))).trans (show _ = some (.int .i64 (k : Int)) from rfl)
              exact ⟨_, by simp [execOp, go_sem, es8], rfl⟩
            · refine jn_val rfl (by decide) (fun a u hF hX hk hp => ?_)
              have es7 := (hk 7 (keep_of (by kernel_rfl))).trans (show _ = some (.pointer (some ⟨mb, 0, none⟩)) from rfl)
              exact ⟨_, by simp [execOp, go_sem, es7], rfl⟩
            · refine jn_val rfl (by decide) (fun a u hF hX hk hp => ?_)
              obtain ⟨x3, ex3, rx3⟩ := hp ⟨3, .data⟩ (by simp) rfl _ _ rfl rfl
              obtain rfl : x3 = _ := rx3
              have fc0 := hF.2.1.cell 1
              exact ⟨_, by simp [execOp, go_sem, ex3, fc0], rfl⟩
            · refine jn_val rfl (by decide) (fun a u hF hX hk hp => ?_)
              have es8 := (hk 8 (keep_of (by kernel_rfl))).trans (show _ = some (.int .i64 (k : Int)) from rfl)
              exact ⟨_, by simp [execOp, go_sem, es8], rfl⟩
            · refine jn_val rfl (by decide) (fun a u hF hX hk hp => ?_)
              have es10 := (hk 10 (keep_of (by kernel_rfl))).trans (show _ = some (.pointer (some ⟨vb, 0, none⟩)) from rfl)
              exact ⟨.agg (#[.int .i64 p.x, .int .i64 p.y, .int .i64 p.z]), loadR_run _ _ 23 _ Try.underlying23 rfl _ rfl vb 0 (eval_tmp es10) (#[.int .i64 p.x, .int .i64 p.y, .int .i64 p.z]) (infoVm) u (rng_blkM hF.2.2.2), rfl⟩
            · refine jn_val rfl (by decide) (fun a u hF hX hk hp => ?_)
              have es0 := (hk 0 (keep_of (by kernel_rfl))).trans (show _ = some (.pointer (some ⟨g, 0, none⟩)) from rfl)
              exact ⟨_, by simp [execOp, go_sem, es0], rfl⟩
            · refine jn_val rfl (by decide) (fun a u hF hX hk hp => ?_)
              have es9 := (hk 9 (keep_of (by kernel_rfl))).trans (show _ = some (.pointer (some ⟨xb, 0, none⟩)) from rfl)
              exact ⟨.agg (#[.int .i64 s.1, .int .i64 s.2.1, .int .i64 s.2.2]), loadR_run _ _ 79 _ Try.underlying79 rfl _ rfl xb 0 (eval_tmp es9) (#[.int .i64 s.1, .int .i64 s.2.1, .int .i64 s.2.2]) (infoSpM) u (rng_blkM hF.2.2.1), rfl⟩
            · refine jn_call rfl (by decide) (grows_and (grows_bel _) (grows_and (grows_blk _ _ _) (grows_and (grows_blk _ _ _) (grows_blk _ _ _)))) (fun j => grows_and (grows_blk _ _ _) (grows_blk _ _ _)) (fun a u hF hk hp => ?_)
              obtain ⟨x7, ex7, rx7⟩ := hp ⟨7, .data⟩ (by simp) rfl _ _ rfl rfl
              obtain rfl : x7 = _ := rx7
              obtain ⟨x8, ex8, rx8⟩ := hp ⟨8, .data⟩ (by simp) rfl _ _ rfl rfl
              obtain rfl : x8 = _ := rx8
              exact ⟨45, #[.pointer (some ⟨g, 0, none⟩), .agg #[.int .i64 s.1, .int .i64 s.2.1, .int .i64 s.2.2]], _, by simp [execOp, go_sem, ex7, ex8], kK u hF.1, rfl⟩
            · refine jn_val rfl (by decide) (fun a u hF hX hk hp => ?_)
              obtain ⟨x1, ex1, rx1⟩ := hp ⟨1, .data⟩ (by simp) rfl _ _ rfl rfl
              obtain rfl : x1 = _ := rx1
              obtain ⟨x2, ex2, rx2⟩ := hp ⟨2, .data⟩ (by simp) rfl _ _ rfl rfl
              obtain rfl : x2 = _ := rx2
              have fc0 := q0
              have fc1 := q1
              exact ⟨_, by simp [execOp, go_sem, ex1, ex2, fc0, fc1], rfl⟩
            · refine jn_chg rfl 0 (by decide) rfl (by decide) (.inl rfl) (fun a u hF hX hk hp => ?_)
              obtain ⟨x10, ex10, rx10⟩ := hp ⟨10, .data⟩ (by simp) rfl _ _ rfl rfl
              obtain rfl : x10 = _ := rx10
              obtain ⟨x6, ex6, rx6⟩ := hp ⟨6, .data⟩ (by simp) rfl _ _ rfl rfl
              obtain rfl : x6 = _ := rx6
              obtain ⟨hX1, hX2⟩ := hX
              rw [if_pos (by decide)] at hX1 hX2
              exact wp_store_mid 23 _ _ rfl bv (k * 3) #[.int .i64 p.x, .int .i64 p.y, .int .i64 p.z] (eval_tmp ex10) (eval_tmp ex6) (there_row hX1 hkn) infoVm (by simp [Value.oneCell']) ⟨_, rfl, ⟨bel_setCellsM hvb _ _ _ hF.1, far_setCells nmv _ _ _ hF.2.1, far_setCells nxv _ _ _ hF.2.2.1, far_setCells nvv _ _ _ hF.2.2.2⟩, ⟨(by rw [if_neg (by decide), hf1.out]; exact pts_put hX1 hkn p), (by rw [if_pos (by decide)]; exact far_setCells nkv _ _ _ hX2)⟩, (fun d hd => by cases hd)⟩
            · refine jn_val rfl (by decide) (fun a u hF hX hk hp => ?_)
              obtain ⟨x4, ex4, rx4⟩ := hp ⟨4, .data⟩ (by simp) rfl _ _ rfl rfl
              obtain rfl : x4 = _ := rx4
              obtain ⟨x5, ex5, rx5⟩ := hp ⟨5, .data⟩ (by simp) rfl _ _ rfl rfl
              obtain rfl : x5 = _ := rx5
              have fc0 := q0
              have fc1 := q1
              exact ⟨_, by simp [execOp, go_sem, ex4, ex5, fc0, fc1], rfl⟩
            · refine jn_chg rfl 1 (by decide) rfl (by decide) (.inr ⟨⟨11, .chain⟩, by simp, rfl, rfl⟩) (fun a u hF hX hk hp => ?_)
              obtain ⟨x12, ex12, rx12⟩ := hp ⟨12, .data⟩ (by simp) rfl _ _ rfl rfl
              obtain rfl : x12 = _ := rx12
              obtain ⟨x9, ex9, rx9⟩ := hp ⟨9, .data⟩ (by simp) rfl _ _ rfl rfl
              obtain rfl : x9 = _ := rx9
              obtain ⟨hX1, hX2⟩ := hX
              rw [if_neg (by decide)] at hX1
              rw [if_pos (by decide)] at hX2
              exact wp_store_mid 59 _ _ rfl bk (k * 5) (kyA ky) (eval_tmp ex12) (eval_tmp ex9) (there_row hX2 hkn) infoKy (by simp [Value.oneCell']) ⟨_, rfl, ⟨bel_setCellsM hkb _ _ _ hF.1, far_setCells nmk _ _ _ hF.2.1, far_setCells nxk _ _ _ hF.2.2.1, far_setCells nvk _ _ _ hF.2.2.2⟩, ⟨(by rw [if_neg (by decide)]; exact far_setCells nvb _ _ _ hX1), (by rw [if_neg (by decide), hg1.out]; exact kys_put hX2 hkn ky)⟩, (fun d hd => by cases hd)⟩
            · trivial
          · intro a W4 listed hJ hall hsz hdf hk hgot
            obtain ⟨hF, hX⟩ := jn_end hJ (by decide : ∀ p ∈ ([11, 13] : List Nat), p < 14) hall
            clear hJ hall
            obtain ⟨f, hf, rfl⟩ := frame_eq hsz hdf hk [45, 46, 47, 48, 49, 50, 51, 52, 53, 54, 55, 56] (by rfl)
            clear hsz hdf hk hgot hf 
            simp only [List.drop_succ_cons, List.drop_zero, setAll, List.setIfInBounds_toArray, List.set_cons_succ, List.set_cons_zero]
            generalize f 45 = uu45; generalize f 46 = uu46; generalize f 47 = uu47; generalize f 48 = uu48; generalize f 49 = uu49; generalize f 50 = uu50; generalize f 51 = uu51; generalize f 52 = uu52; generalize f 53 = uu53; generalize f 54 = uu54; generalize f 55 = uu55; generalize f 56 = uu56
            go_wp2
            go_roundw
            case rel =>
              refine ⟨k + 1, by go_num, by omega, hF.1, hF.2.1, ?_, ?_, fun h => by cases h⟩
              · have := hX.1
                rw [if_neg (by decide), hf1'.out] at this
                exact this
              · have := hX.2
                rw [if_neg (by decide), hg1'.out] at this
                exact this
            case measure => simp [intOf]; omega
      · obtain rfl : k = n := by omega
        cases ok
        · have := hok rfl
          omega
        · have hRr := hR1.below hBr
          have hL2r := hL2.below hBr
          clear hok
          go_wp2_with (first | (refine getM rfl _ rfl mb rfl _ _ _ hMr ?_; simp only [Act.put, List.setIfInBounds_toArray, List.set_cons_succ, List.set_cons_zero]) | (refine putM rfl _ _ rfl rb _ _ _ rfl rfl ⟨rfl, rfl, rfl⟩ _ rfl hRr ?_; simp only [Act.put, List.setIfInBounds_toArray, List.set_cons_succ, List.set_cons_zero]) | fail)
          refine bodyPost_ret (ret2M (p := 2) (u := 3) rfl _ _ rb _ _ _ _ rfl rfl (hRr.setRow _)) rfl ⟨bel_setRow hbW hrW _, ?_⟩
          rw [hLd.out]
          have hnl := hn.out
          have nrv : rb ≠ bv := (hR1.below hBr).ne_ hVr (by decide)
          have nrk : rb ≠ bk := (hR1.below hBr).ne_ hKr (by decide)
          have hV9 := hVr.farRow (b := rb) #[.slice (some ⟨bv, 0, none⟩) k k, .slice (some ⟨bk, 0, none⟩) k k, .slice A2 nt c2] nrv
          have hK9 := hKr.farRow (b := rb) #[.slice (some ⟨bv, 0, none⟩) k k, .slice (some ⟨bk, 0, none⟩) k k, .slice A2 nt c2] nrk
          refine ⟨some ⟨bv, 0, none⟩, some ⟨bk, 0, none⟩, A2, k, k, c2, ?_, VL_pts (f := fun u => if h : u < L.length then (if u < k then VF L[u] else N3) else N3) hV9 (by rw [List.length_map]; exact hnl) (fun i hi => ?_), KL_kys (f := fun u => if h : u < L.length then (if u < k then msK P.co cage id q L[u] else ky0) else ky0) hK9 (by rw [List.length_map]; exact hnl) (fun i hi => ?_), ?_, ?_⟩
          · simp only [List.length_map]
            rw [← hnl, ← hnt.out]
            rfl
          · rw [List.length_map] at hi
            simp only [dif_pos hi, if_pos (show i < k by omega), List.getElem_map]
          · rw [List.length_map] at hi
            simp only [dif_pos hi, if_pos (show i < k by omega), List.getElem_map]
          · exact L3_far (hL2.below hBr) (hR1.below hBr) _
          · refine ⟨⟨fun b o e => ?_, fun b o e => Nat.le_trans hbW0 (hA2f b o e)⟩, ?_⟩
            · cases e
              exact Nat.le_trans hb01.size hk0
            rintro b o ⟨rfl, rfl⟩
            refine ⟨rfl, Nat.le_trans hb01.size hv0, ⟨_, hV9⟩, fun b' o' e e2 => ?_, fun h3 b' o' e e2 => ?_⟩
            · cases e
              exact hvk e2.symm
            · obtain ⟨b3, o3, e3, hl3, _⟩ := hL2 h3
              rw [e3] at e
              cases e
              omega
end Go.Proofs.Ytpaehkjnefgaiaa
namespace Go.Proofs.Ytpaehkjnefgaiaa
open Go.RowKit
set_option linter.unusedVariables false
set_option linter.unusedSimpArgs false
set_option linter.unnecessarySimpa false
set_option maxRecDepth 100000
theorem max_any (W : World) (g o : Nat) (q : Nat → Int) (hg : g < W.heap.size) (hc : ∀ k, k < 4 → W.cell? ⟨g, o + k, none⟩ = some (.int .i64 (q k))) (hq : okQ q) :
    Calls Try.prog 25 #[.slice (some ⟨g, o, none⟩) 4 4] W fun e W' => e = .returned (.int .i64 (mxI q 4)) ∧ Below W.heap.size W W' := by
  have h0 := hq 0 (by omega)
  have e1 : q 0 = mxI q 1 := by
    show _ = max (mxI q 0) (q 0)
    show _ = max 0 (q 0)
    omega
  have c0 := hc 0 (by omega)
  rw [e1, Nat.add_zero] at c0
  obtain ⟨ans, hans⟩ : ∃ a, a = mxI q 4 := ⟨_, rfl⟩
  rw [← hans]
  replace hans := Lib.hid hans
  replace e1 := Lib.hid e1
  replace h0 := Lib.hid h0
  go_enter Try.func25, Try.ntmps25
  go_wp2
  go_loopw [4, 3] (fun iv mv wr => ∃ k : Nat, iv = .int .i64 (k : Int) ∧ 1 ≤ k ∧ k ≤ 4 ∧ mv = .int .i64 (mxI q k) ∧ Below W.heap.size W wr) (fun iv _ _ => 4 - (intOf iv).toNat)
  case atStart => exact ⟨1, rfl, by omega, by omega, rfl, Below.refl _ _⟩
  case round =>
    obtain ⟨k, rfl, hk1, hk, rfl, hBr⟩ := hrel
    by_cases hlt : k < 4
    · have ck := (hBr.cell (p := ⟨g, o + k, none⟩) hg).trans (hc k hlt)
      have gl := Nat.lt_of_lt_of_le hg hBr.size
      have e2 : max (mxI q k) (q k) = mxI q (k + 1) := rfl
      replace e2 := Lib.hid e2
      have q0 : (0 : Int) ≤ (k : Int) := by omega
      have q1 : (k : Int) < 4 := by omega
      generalize mxI q k = m at *
      generalize q k = r at *
      clear c0 hc
      go_wp2
      rw [e2.out]
      go_roundw
      case rel => exact ⟨k + 1, by go_num, by omega, by omega, rfl, hBr⟩
      case measure => simp [intOf]; omega
    · obtain rfl : k = 4 := by omega
      rw [← hans.out]
      go_wp2
      go_ret
      exact ⟨rfl, hBr⟩
/-- A dicer's cells. -/
def dcC (P : Pch) (cage id : Int) (q : Nat → Int) (M : Int) (tv : Value) (h : Int) (j : Nat) : Value := if j < 65 then P.c j else if j = 65 then .int .i64 cage else if j = 66 then .int .i64 id else if j < 71 then .int .i64 (q (j - 67)) else if j = 71 then .int .i64 M else if j = 72 then tv else .int .i64 h
def dcRow (P : Pch) (cage id : Int) (q : Nat → Int) (M : Int) (tv : Value) (h : Int) : Array Value := cellsF 74 (dcC P cage id q M tv h)
theorem infoPt65 {P : Pch} : (Try.prog.info? 28).map (·.size) = some P.row.toList.length := by
  rw [Array.length_toList, P.row_size]
  kernel_rfl
theorem infoDc {P : Pch} {cage id : Int} {q : Nat → Int} {M : Int} {tv : Value} {h : Int} : (Try.prog.info? 70).map (·.size) = some (dcRow P cage id q M tv h).size := by
  rw [show (dcRow P cage id q M tv h).size = 74 from cellsF_size _ _]
  kernel_rfl
theorem built_Dc (P : Pch) (cage id un ht : Int) : Try.prog.built 70 [(0, .agg P.row), (1, .int .i64 cage), (2, .int .i64 id), (3, sdV P.pt un), (6, .int .i64 ht)] = some (dcRow P cage id (msR P.pt un) 0 (.pointer none) ht) := by kernel_rfl
theorem alloc_Dc (a : Act) (o : Oper) (ho : o.op = .alloc 70) (w : World) : (execOp a.eval o).run Try.prog w = .ok (.value (.pointer (some ⟨w.heap.size, 0, none⟩))) (w.alloc (.cells (dcRow Pch0 0 0 (fun _ => 0) 0 (.pointer none) 0) 70)) := by
  unfold execOp
  rw [ho]
  kernel_rfl
theorem dc_one (P : Pch) (cage id : Int) (q : Nat → Int) (M : Int) (tv : Value) (h : Int) (ht : tv.oneCell' = true) : (dcRow P cage id q M tv h).all (·.oneCell') = true := cellsF_one fun j hj => by
  unfold dcC
  split
  · exact P.one j
  split; · rfl
  split; · rfl
  split; · rfl
  split; · rfl
  split; · exact ht
  rfl
theorem cellsF_set {n v : Nat} (f : Nat → Value) (x : Value) : (cellsF n f).setIfInBounds v x = cellsF n fun u => if u = v then x else f u := by
  apply Array.ext_getElem?
  intro i
  unfold cellsF
  rcases Nat.lt_or_ge i n with hi | hi
  · by_cases e : v = i
    · subst e; simp [hi]
    · rw [Array.getElem?_setIfInBounds_ne e]
      simp [hi, Ne.symm e]
  · rw [Array.getElem?_eq_none (by simp; exact hi), Array.getElem?_eq_none (by simp; exact hi)]
theorem dc_setM (P : Pch) (cage id : Int) (q : Nat → Int) (M N : Int) (tv : Value) (h : Int) : (dcRow P cage id q M tv h).setIfInBounds 71 (.int .i64 N) = dcRow P cage id q N tv h := by
  unfold dcRow
  rw [cellsF_set]
  refine cellsF_ext fun j hj => ?_
  unfold dcC
  by_cases e : j = 71
  · subst e; rfl
  · rw [if_neg e]
    simp only [if_neg e]
theorem dc_setT (P : Pch) (cage id : Int) (q : Nat → Int) (M : Int) (tv tw : Value) (h : Int) : (dcRow P cage id q M tv h).setIfInBounds 72 tw = dcRow P cage id q M tw h := by
  unfold dcRow
  rw [cellsF_set]
  refine cellsF_ext fun j hj => ?_
  unfold dcC
  by_cases e : j = 72
  · subst e; rfl
  · rw [if_neg e]
    simp only [if_neg e]
theorem DcB.of {W : World} {g : Nat} {t : TypeId} {P : Pch} {cage id : Int} {q : Nat → Int} {M : Int} {tv : Value} {h : Int} (hB : Blk W g t (dcRow P cage id q M tv h)) : DcB W g P cage id q M tv h := by
  have c : ∀ j, j < 74 → W.cell? ⟨g, j, none⟩ = some (dcC P cage id q M tv h j) := fun j hj => by rw [hB.cell]; exact cellsF_at _ hj
  refine ⟨hB.lt, ⟨hB.lt, fun j hj => ?_⟩, (c 65 (by omega)).trans rfl, (c 66 (by omega)).trans rfl, fun k hk => ?_, (c 71 (by omega)).trans rfl, (c 72 (by omega)).trans rfl, (c 73 (by omega)).trans rfl⟩
  · rw [Nat.zero_add, c j (by omega)]
    unfold dcC
    rw [if_pos hj]
  · rw [c (67 + k) (by omega)]
    unfold dcC
    rw [if_neg (by omega), if_neg (by omega), if_neg (by omega), if_pos (by omega), show 67 + k - 67 = k by omega]
end Go.Proofs.Ytpaehkjnefgaiaa
namespace Go.Proofs.Ytpaehkjnefgaiaa
open Go.RowKit
set_option linter.unusedVariables false
set_option linter.unusedSimpArgs false
set_option linter.unnecessarySimpa false
set_option maxRecDepth 100000
/-- What Dice answers. -/
def DiceA (base : Nat) (W : World) (e : Ending) (x : Int) (m : Msh) : Prop := (x = 0 ∧ MsV base W e m) ∨ (x ≠ 0 ∧ MsX e x)
/-- Textures that are not too great. -/
def TexsOk (ts : List TexD) : Prop := ts.length ≤ 1099511627776 ∧ ∀ t ∈ ts, t.rows.length ≤ 1099511627776
theorem getPt {ops : Array Oper} {rest : List Oper} {o : Oper} {a : Act} {w : World} {Q : Exit → Act → World → Prop} (hgd : o.guard = none) (x : Operand) (ho : o.op = .load 28 x) (g : Nat) (hx : a.eval x = .pointer (some ⟨g, 0, none⟩)) (P : Pch) (h : PchB w g 0 P)
    (K : wpList Try.prog ops Q rest (a.put o.dst (.agg P.row)) w) : wpList Try.prog ops Q (o :: rest) a w :=
  loadR hgd 28 _ Try.underlying28 rfl x ho g 0 hx P.row infoPt65 h.rng K
theorem infoSk {a b c d e f : Value} : (Try.prog.info? 30).map (·.size) = some (#[a, b, c, d, e, f] : Array Value).size := by kernel_rfl
theorem getSk {ops : Array Oper} {rest : List Oper} {o : Oper} {a : Act} {w : World} {Q : Exit → Act → World → Prop} (hgd : o.guard = none) (x : Operand) (ho : o.op = .load 30 x) (g : Nat) (hx : a.eval x = .pointer (some ⟨g, 0, none⟩)) (nm : ByteArray) (ma lv un tx ht : Int) (h : Blk w g 30 (skC nm ma lv un tx ht))
    (K : wpList Try.prog ops Q rest (a.put o.dst (.agg (skC nm ma lv un tx ht))) w) : wpList Try.prog ops Q (o :: rest) a w :=
  wpList_load_row hgd 30 x ho g hx 30 _ (0, 0) _ h Try.underlying30 rfl infoSk K
theorem putDc {ops : Array Oper} {rest : List Oper} {o : Oper} {a : Act} {w : World} {Q : Exit → Act → World → Prop} (hgd : o.guard = none) (x y : Operand) (ho : o.op = .store 70 x y) (g : Nat) (P : Pch) (cage id : Int) (q : Nat → Int) (M : Int) (tv : Value) (h : Int) (htv : tv.oneCell' = true) (hx : a.eval x = .pointer (some ⟨g, 0, none⟩)) (hy : a.eval y = .agg (dcRow P cage id q M tv h)) (old : Array Value) (hs : old.size = 74) (hB : Blk w g 70 old)
    (K : wpList Try.prog ops Q rest (a.put o.dst undef) (w.setRow g (dcRow P cage id q M tv h))) : wpList Try.prog ops Q (o :: rest) a w :=
  wpList_store_row hgd 70 x y ho g _ hx hy 70 old hB infoDc (by rw [hs]; exact (cellsF_size _ _).symm) (dc_one _ _ _ _ _ _ _ htv) K
set_option maxHeartbeats 8000000 in
theorem dice_bad (W : World) (P : Pch) (cage id : Int) (nm : ByteArray) (ma lv un tx ht : Int) (A : Option Addr) (c : Nat) (n : Nat) (hb : tx < -1 ∨ (n : Int) ≤ tx) :
    Calls Try.prog 11 #[.agg P.row, .int .i64 cage, .int .i64 id, .agg (skC nm ma lv un tx ht), .slice A n c] W fun e W' => Below W.heap.size W W' ∧ MsX e 11 := by
  obtain ⟨W0, hW0⟩ : ∃ W0, W0 = ((W.alloc (.cells P.row 28)).alloc (.cells (skC nm ma lv un tx ht) 30)).alloc (.cells #[.slice none 0 0, .slice none 0 0, .slice none 0 0] 38) := ⟨_, rfl⟩
  have hb0 : Below W.heap.size W W0 := by rw [hW0]; exact bel_alloc (bel_alloc (bel_alloc (Below.refl _ _) _) _) _
  have hS0 : Blk W0 (W.heap.size + 1) 30 (skC nm ma lv un tx ht) := by rw [hW0]; exact (Blk.new _ _ _ _ (by simp)).alloc _
  have hR0 : Blk W0 (W.heap.size + 1 + 1) 38 #[.slice none 0 0, .slice none 0 0, .slice none 0 0] := by rw [hW0]; exact Blk.new _ _ _ _ (by simp)
  go_enter Try.func11, Try.ntmps11
  go_upto_region 1 with (fail)
  simp only [← hW0]
  clear hW0
  have s4 : W0.cell? ⟨W.heap.size + 1, 4, none⟩ = some (.int .i64 tx) := hS0.cell 4
  have sl := hS0.lt
  by_cases h1 : tx < -1
  · clear hb
    go_wp2_with (first | (refine putM rfl _ _ rfl (W.heap.size + 1 + 1) _ _ _ rfl rfl ⟨rfl, rfl, rfl⟩ _ rfl hR0 ?_; simp only [Act.put, List.setIfInBounds_toArray, List.set_cons_succ, List.set_cons_zero]) | fail)
    exact bodyPost_ret (ret2M (p := 10) (u := 11) rfl _ _ (W.heap.size + 1 + 1) _ _ _ _ rfl rfl (hR0.setRow _)) rfl ⟨bel_setRow hb0 (by omega) _, rfl⟩
  · have h2 : tx ≥ (n : Int) := by omega
    clear hb
    go_wp2_with (first | (refine putM rfl _ _ rfl (W.heap.size + 1 + 1) _ _ _ rfl rfl ⟨rfl, rfl, rfl⟩ _ rfl hR0 ?_; simp only [Act.put, List.setIfInBounds_toArray, List.set_cons_succ, List.set_cons_zero]) | fail)
    exact bodyPost_ret (ret2M (p := 10) (u := 11) rfl _ _ (W.heap.size + 1 + 1) _ _ _ _ rfl rfl (hR0.setRow _)) rfl ⟨bel_setRow hb0 (by omega) _, rfl⟩
set_option maxHeartbeats 8000000 in
theorem dice_err (W : World) (P : Pch) (cage id : Int) (nm : ByteArray) (ma lv un tx ht : Int) (A : Option Addr) (c : Nat) (n : Nat) (ht1 : -1 ≤ tx ∧ tx < (n : Int)) (x : Int) (hx : msF P un ht = x) (hx0 : ¬ x = 0) :
    Calls Try.prog 11 #[.agg P.row, .int .i64 cage, .int .i64 id, .agg (skC nm ma lv un tx ht), .slice A n c] W fun e W' => Below W.heap.size W W' ∧ MsX e x := by
  obtain ⟨W0, hW0⟩ : ∃ W0, W0 = ((W.alloc (.cells P.row 28)).alloc (.cells (skC nm ma lv un tx ht) 30)).alloc (.cells #[.slice none 0 0, .slice none 0 0, .slice none 0 0] 38) := ⟨_, rfl⟩
  have hb0 : Below W.heap.size W W0 := by rw [hW0]; exact bel_alloc (bel_alloc (bel_alloc (Below.refl _ _) _) _) _
  have hP0 : PchB W0 W.heap.size 0 P := by rw [hW0]; exact PchB.of (((Blk.new _ _ _ _ rfl).alloc _).alloc _)
  have hS0 : Blk W0 (W.heap.size + 1) 30 (skC nm ma lv un tx ht) := by rw [hW0]; exact (Blk.new _ _ _ _ (by simp)).alloc _
  have hR0 : Blk W0 (W.heap.size + 1 + 1) 38 #[.slice none 0 0, .slice none 0 0, .slice none 0 0] := by rw [hW0]; exact Blk.new _ _ _ _ (by simp)
  have h1 : ¬ tx < -1 := by omega
  have h2 : ¬ tx ≥ (n : Int) := by omega
  have kF := fault_any P nm ma lv un tx ht
  rw [hx] at kF
  clear hx
  go_enter Try.func11, Try.ntmps11
  go_upto_region 1 with (fail)
  simp only [← hW0]
  clear hW0
  obtain ⟨bp, hbp⟩ : ∃ b, b = W.heap.size := ⟨_, rfl⟩
  rw [← hbp] at hP0 hS0 hR0
  simp only [← hbp]
  have hbW : W.heap.size ≤ bp := by omega
  replace hbp := Lib.hid hbp
  have s4 : W0.cell? ⟨bp + 1, 4, none⟩ = some (.int .i64 tx) := hS0.cell 4
  have sl := hS0.lt
  have hRg := fun (x : More) => hR0.grow x
  go_upto_region 5 with (first | (refine getPt rfl _ rfl bp rfl P hP0 ?_; simp only [Act.put, List.setIfInBounds_toArray, List.set_cons_succ, List.set_cons_zero]) | (refine getSk rfl _ rfl (bp + 1) rfl nm ma lv un tx ht hS0 ?_; simp only [Act.put, List.setIfInBounds_toArray, List.set_cons_succ, List.set_cons_zero]) | (go_at_call 23; (with_reducible refine (kF.at_ _).mono ?_); rintro e w1 ⟨rfl, xf, rfl⟩) | fail)
  have hR1 := hR0.grow xf
  have hb1 := bel_grow hb0 xf
  go_wp2_with (first | (refine putM rfl _ _ rfl (bp + 1 + 1) _ _ _ rfl rfl ⟨rfl, rfl, rfl⟩ _ rfl hR1 ?_; simp only [Act.put, List.setIfInBounds_toArray, List.set_cons_succ, List.set_cons_zero]) | fail)
  exact bodyPost_ret (ret2M (p := 10) (u := 11) rfl _ _ (bp + 1 + 1) _ _ _ _ rfl rfl (hR1.setRow _)) rfl ⟨bel_setRow hb1 (by omega) _, rfl⟩
set_option maxHeartbeats 8000000 in
theorem dice_ok (W : World) (P : Pch) (cage id : Int) (nm : ByteArray) (ma lv un tx ht : Int) (A : Option Addr) (c : Nat) (n : Nat) (ht1 : -1 ≤ tx ∧ tx < (n : Int)) (fn : Fine P un ht) (tv : Value) (hA : (tx < 0 ∨ ht = 0) ∧ tv = .pointer none ∨ (0 ≤ tx ∧ 0 < ht) ∧ ∃ b o, A = some ⟨b, o, none⟩ ∧ tv = .pointer (some ⟨b, o + tx.toNat * 4, none⟩)) (K : World → Ending → Prop)
    (kC : ∀ u g, Below W.heap.size W u → W.heap.size ≤ g → DcB u g P cage id (msR P.pt un) (mxI (msR P.pt un) 4) tv ht → Calls Try.prog 26 #[.pointer (some ⟨g, 0, none⟩)] u fun e W' => Below u.heap.size u W' ∧ K W' e) (hK : ∀ w e w', K w e → Below w.heap.size w w' → K w' e)
    (hE : ∀ w e, K w e → ∃ p q r y, e = .returned (.tuple #[.agg #[p, q, r], .int .i64 y]) ∧ p.oneCell' = true ∧ q.oneCell' = true ∧ r.oneCell' = true) (hKr : ∀ w e g cs, K w e → Blk w g 38 #[.slice none 0 0, .slice none 0 0, .slice none 0 0] → K (w.setRow g cs) e) :
    Calls Try.prog 11 #[.agg P.row, .int .i64 cage, .int .i64 id, .agg (skC nm ma lv un tx ht), .slice A n c] W fun e W' => Below W.heap.size W W' ∧ K W' e := by
  obtain ⟨W0, hW0⟩ : ∃ W0, W0 = ((W.alloc (.cells P.row 28)).alloc (.cells (skC nm ma lv un tx ht) 30)).alloc (.cells #[.slice none 0 0, .slice none 0 0, .slice none 0 0] 38) := ⟨_, rfl⟩
  have hb0 : Below W.heap.size W W0 := by rw [hW0]; exact bel_alloc (bel_alloc (bel_alloc (Below.refl _ _) _) _) _
  have hP0 : PchB W0 W.heap.size 0 P := by rw [hW0]; exact PchB.of (((Blk.new _ _ _ _ rfl).alloc _).alloc _)
  have hS0 : Blk W0 (W.heap.size + 1) 30 (skC nm ma lv un tx ht) := by rw [hW0]; exact (Blk.new _ _ _ _ (by simp)).alloc _
  have hR0 : Blk W0 (W.heap.size + 1 + 1) 38 #[.slice none 0 0, .slice none 0 0, .slice none 0 0] := by rw [hW0]; exact Blk.new _ _ _ _ (by simp)
  have h1 : ¬ tx < -1 := by omega
  have h2 : ¬ tx ≥ (n : Int) := by omega
  have kF := fault_any P nm ma lv un tx ht
  rw [fn.zero] at kF
  have kR := sides_any P.pt un
  go_enter Try.func11, Try.ntmps11
  go_upto_region 1 with (fail)
  simp only [← hW0]
  clear hW0
  obtain ⟨bp, hbp⟩ : ∃ b, b = W.heap.size := ⟨_, rfl⟩
  rw [← hbp] at hP0 hS0 hR0
  simp only [← hbp]
  have hbW : W.heap.size ≤ bp := by omega
  replace hbp := Lib.hid hbp
  have s4 : W0.cell? ⟨bp + 1, 4, none⟩ = some (.int .i64 tx) := hS0.cell 4
  have sl := hS0.lt
  go_upto_region 6 with (first | (refine getPt rfl _ rfl bp rfl P hP0 ?_; simp only [Act.put, List.setIfInBounds_toArray, List.set_cons_succ, List.set_cons_zero]) | (refine getSk rfl _ rfl (bp + 1) rfl nm ma lv un tx ht hS0 ?_; simp only [Act.put, List.setIfInBounds_toArray, List.set_cons_succ, List.set_cons_zero]) | (go_at_call 23; (with_reducible refine (kF.at_ _).mono ?_); rintro e w1 ⟨rfl, xf, rfl⟩) | fail)
  have hP1 : PchB (grow W0 xf) bp 0 P := hP0.below (xf.kept W0)
  have hS1 := hS0.grow xf
  have hR1 := hR0.grow xf
  have hb1 := bel_grow hb0 xf
  clear hP0 hS0 hR0 hb0 s4 sl kF
  generalize grow W0 xf = W1 at *
  obtain ⟨bs, hbs⟩ : ∃ b, b = bp + 1 := ⟨_, rfl⟩
  rw [← hbs] at hS1 hR1
  simp only [← hbs]
  have hbsW : W.heap.size ≤ bs := by omega
  replace hbs := Lib.hid hbs
  refine wp_region_monoT 12 (RL [PE (.agg P.row), PE (.int .i64 cage), PE (.int .i64 id), PE (.pointer (some ⟨bp, 0, none⟩)), PE (.agg (ptsC 16 P.pt)), PE (.pointer (some ⟨bs, 3, none⟩)), PE (.int .i64 un), PE ((sdV P.pt un)), PE (.pointer (some ⟨bs, 5, none⟩)), PE (.int .i64 ht), PE (.agg (dcRow P cage id (msR P.pt un) 0 (.pointer none) ht)), PBm W1.heap.size 70 (dcRow Pch0 0 0 (fun _ => 0) 0 (.pointer none) 0)]) (by kernel_rfl) _ rfl (by kernel_rfl) (by kernel_rfl) (by kernel_rfl) (by kernel_rfl) (by kernel_rfl) (RL.stays ?_) ?_ ?_
  · intro p hp
    simp only [List.mem_cons, List.not_mem_nil, or_false] at hp
    rcases hp with rfl | rfl | rfl | rfl | rfl | rfl | rfl | rfl | rfl | rfl | rfl | rfl <;> first | exact PE.stays _ | exact PV.stays _ _ _ | exact PBm.stays _ _ _
  · simp only [List.take_succ_cons, List.take_zero]
    refine ⟨?_, ?_, ?_, ?_, ?_, ?_, ?_, ?_, ?_, ?_, ?_, ?_, ?_⟩
    · refine mono_val rfl (fun a w hB hk hp => ?_)
      have es5 := (hk 5 (keep_of (by kernel_rfl))).trans (show _ = some (.pointer (some ⟨bp, 0, none⟩)) from rfl)
      exact ⟨.agg P.row, w, loadR_run _ _ 28 _ Try.underlying28 rfl _ rfl bp 0 (eval_tmp es5) P.row infoPt65 w (hP1.below hB).rng, Below.refl _ _, fun _ _ => rfl⟩
    · refine mono_val rfl (fun a w hB hk hp => ?_)
      have es1 := (hk 1 (keep_of (by kernel_rfl))).trans (show _ = some (.int .i64 cage) from rfl)
      exact ⟨.int .i64 cage, w, by simp [execOp, go_sem, es1], Below.refl _ _, fun _ _ => rfl⟩
    · refine mono_val rfl (fun a w hB hk hp => ?_)
      have es2 := (hk 2 (keep_of (by kernel_rfl))).trans (show _ = some (.int .i64 id) from rfl)
      exact ⟨.int .i64 id, w, by simp [execOp, go_sem, es2], Below.refl _ _, fun _ _ => rfl⟩
    · refine mono_val rfl (fun a w hB hk hp => ?_)
      have es5 := (hk 5 (keep_of (by kernel_rfl))).trans (show _ = some (.pointer (some ⟨bp, 0, none⟩)) from rfl)
      exact ⟨.pointer (some ⟨bp, 0, none⟩), w, by simp [execOp, go_sem, es5], Below.refl _ _, fun _ _ => rfl⟩
    · refine mono_val rfl (fun a w hB hk hp => ?_)
      obtain ⟨x3, ex3, rx3⟩ := hp ⟨3, .data⟩ (by simp) rfl _ _ rfl rfl
      obtain rfl : x3 = _ := rx3
      exact ⟨.agg (ptsC 16 P.pt), w, loadR_run _ _ 24 _ Try.underlying24 rfl _ rfl bp 0 (eval_tmp ex3) (ptsC 16 P.pt) (size16 P.pt) w (hP1.below hB).pts, Below.refl _ _, fun _ _ => rfl⟩
    · refine mono_val rfl (fun a w hB hk hp => ?_)
      have es8 := (hk 8 (keep_of (by kernel_rfl))).trans (show _ = some (.pointer (some ⟨bs, 0, none⟩)) from rfl)
      exact ⟨.pointer (some ⟨bs, 3, none⟩), w, by simp [execOp, go_sem, es8], Below.refl _ _, fun _ _ => rfl⟩
    · refine mono_val rfl (fun a w hB hk hp => ?_)
      obtain ⟨x5, ex5, rx5⟩ := hp ⟨5, .data⟩ (by simp) rfl _ _ rfl rfl
      obtain rfl : x5 = _ := rx5
      have fc0 := (hS1.below hB).cell 3
      exact ⟨.int .i64 un, w, by simp [execOp, go_sem, ex5, fc0], Below.refl _ _, fun _ _ => rfl⟩
    · refine mono_call rfl (fun a w hB hk hp => ?_)
      obtain ⟨x4, ex4, rx4⟩ := hp ⟨4, .data⟩ (by simp) rfl _ _ rfl rfl
      obtain rfl : x4 = _ := rx4
      obtain ⟨x6, ex6, rx6⟩ := hp ⟨6, .data⟩ (by simp) rfl _ _ rfl rfl
      obtain rfl : x6 = _ := rx6
      exact ⟨24, #[.agg (ptsC 16 P.pt), .int .i64 un], by simp [execOp, go_sem, ex4, ex6], (gcall kR w).mono fun e w' ⟨h1, h2⟩ => ⟨_, h1, h2, fun _ _ => rfl⟩⟩
    · refine mono_val rfl (fun a w hB hk hp => ?_)
      have es8 := (hk 8 (keep_of (by kernel_rfl))).trans (show _ = some (.pointer (some ⟨bs, 0, none⟩)) from rfl)
      exact ⟨.pointer (some ⟨bs, 5, none⟩), w, by simp [execOp, go_sem, es8], Below.refl _ _, fun _ _ => rfl⟩
    · refine mono_val rfl (fun a w hB hk hp => ?_)
      obtain ⟨x8, ex8, rx8⟩ := hp ⟨8, .data⟩ (by simp) rfl _ _ rfl rfl
      obtain rfl : x8 = _ := rx8
      have fc0 := (hS1.below hB).cell 5
      exact ⟨.int .i64 ht, w, by simp [execOp, go_sem, ex8, fc0], Below.refl _ _, fun _ _ => rfl⟩
    · refine mono_val rfl (fun a w hB hk hp => ?_)
      obtain ⟨x0, ex0, rx0⟩ := hp ⟨0, .data⟩ (by simp) rfl _ _ rfl rfl
      obtain rfl : x0 = _ := rx0
      obtain ⟨x1, ex1, rx1⟩ := hp ⟨1, .data⟩ (by simp) rfl _ _ rfl rfl
      obtain rfl : x1 = _ := rx1
      obtain ⟨x2, ex2, rx2⟩ := hp ⟨2, .data⟩ (by simp) rfl _ _ rfl rfl
      obtain rfl : x2 = _ := rx2
      obtain ⟨x7, ex7, rx7⟩ := hp ⟨7, .data⟩ (by simp) rfl _ _ rfl rfl
      obtain rfl : x7 = _ := rx7
      obtain ⟨x9, ex9, rx9⟩ := hp ⟨9, .data⟩ (by simp) rfl _ _ rfl rfl
      obtain rfl : x9 = _ := rx9
      exact ⟨.agg (dcRow P cage id (msR P.pt un) 0 (.pointer none) ht), w, build_of _ _ rfl w _ (by simp only [List.map_toArray, List.map_cons, List.map_nil, eval_tmp ex0, eval_tmp ex1, eval_tmp ex2, eval_tmp ex7, eval_tmp ex9]; exact built_Dc P cage id un ht), Below.refl _ _, fun _ _ => rfl⟩
    · refine mono_val rfl (fun a w hB hk hp => ?_)
      exact ⟨.pointer (some ⟨w.heap.size, 0, none⟩), w.alloc (.cells (dcRow Pch0 0 0 (fun _ => 0) 0 (.pointer none) 0) 70), alloc_Dc _ _ rfl w, bel_alloc (Below.refl _ _) _, fun _ _ => ⟨w.heap.size, rfl, hB.size, Blk.new _ _ _ _ rfl⟩⟩
    · trivial
  · intro a W2 hB hsz hdf hk hgot
    obtain ⟨v10, ev10, rv10⟩ := hgot 10 _ 42 rfl rfl
    obtain rfl : v10 = _ := rv10
    obtain ⟨v11, ev11, rv11⟩ := hgot 11 _ 13 rfl rfl
    obtain ⟨g, rfl, hg0, hg1⟩ : PBm W1.heap.size 70 (dcRow Pch0 0 0 (fun _ => 0) 0 (.pointer none) 0) W2 v11 := rv11
    obtain ⟨f, hf, rfl⟩ := frame_eq hsz hdf hk [32, 33, 34, 35, 36, 37, 38, 39, 40, 41, 42, 13] (by rfl)
    have f42 := hf 42 _ ev10
    have f13 := hf 13 _ ev11
    clear hsz hdf hk hgot hf ev10 ev11
    simp only [List.drop_succ_cons, List.drop_zero, setAll, List.setIfInBounds_toArray, List.set_cons_succ, List.set_cons_zero, f42, f13]
    clear f42 f13
    generalize f 32 = uu32; generalize f 33 = uu33; generalize f 34 = uu34; generalize f 35 = uu35; generalize f 36 = uu36; generalize f 37 = uu37; generalize f 38 = uu38; generalize f 39 = uu39; generalize f 40 = uu40; generalize f 41 = uu41
    have hS2 := hS1.below hB
    have hR2 := hR1.below hB
    have hb2 := bel_trans hb1 hB
    have hgr : g ≠ bs + 1 := hg1.ne_ hR2 (by decide)
    have hgs : g ≠ bs := hg1.ne_ hS2 (by decide)
    have hgW : W.heap.size ≤ g := Nat.le_trans hb1.size hg0
    have hG3 := hg1.setRow (dcRow P cage id (msR P.pt un) 0 (.pointer none) ht)
    have hS3 := hS2.farRow (dcRow P cage id (msR P.pt un) 0 (.pointer none) ht) hgs
    have hR3 := hR2.farRow (dcRow P cage id (msR P.pt un) 0 (.pointer none) ht) hgr
    have hb3 := bel_setRow hb2 hgW (dcRow P cage id (msR P.pt un) 0 (.pointer none) ht)
    go_upto_region 7 with (first | (refine putDc rfl _ _ rfl g P cage id (msR P.pt un) 0 (.pointer none) ht rfl rfl rfl _ (cellsF_size _ _) hg1 ?_; simp only [Act.put, List.setIfInBounds_toArray, List.set_cons_succ, List.set_cons_zero]) | fail)
    clear hS1 hP1 hR1 hb1 hS2 hR2 hb2 hg1 hB
    generalize W2.setRow g (dcRow P cage id (msR P.pt un) 0 (.pointer none) ht) = W3 at *
    obtain ⟨M, hM⟩ : ∃ m, m = mxI (msR P.pt un) 4 := ⟨_, rfl⟩
    rw [← hM] at kC
    have kM := max_any W3 g 67 (msR P.pt un) hG3.lt (fun k hk => (DcB.of hG3).q k hk) fn.q
    rw [← hM] at kM
    replace hM := Lib.hid hM
    clear kR hg0
    have gl := hG3.lt
    go_upto_region 8 with (first | (go_at_call 25; (with_reducible refine kM.mono ?_); rintro e w4 ⟨rfl, hb4⟩; have g71 : w4.cell? ⟨g, 71, none⟩ = some (.int .i64 0) := ((hG3.below hb4).cell 71).trans rfl; have f71 := (hG3.below hb4).frozen 71) | fail)
    have hG4 := (hG3.below hb4).set 71 (.int .i64 M)
    rw [dc_setM] at hG4
    have hS4 := (hS3.below hb4).far 71 (.int .i64 M) hgs
    have hR4 := (hR3.below hb4).far 71 (.int .i64 M) hgr
    have hb5 := bel_set (bel_trans hb3 hb4) (p := ⟨g, 71, none⟩) hgW (.int .i64 M)
    clear hG3 hS3 hR3 hb3 hb4 g71 f71 kM
    generalize w4.setCell ⟨g, 71, none⟩ (.int .i64 M) = W5 at *
    have s4 : W5.cell? ⟨bs, 4, none⟩ = some (.int .i64 tx) := hS4.cell 4
    have s5 : W5.cell? ⟨bs, 5, none⟩ = some (.int .i64 ht) := hS4.cell 5
    have sl := hS4.lt
    have hh0 := fn.h0
    rcases hA with ⟨hno, rfl⟩ | ⟨⟨hy1, hy2⟩, b, o, rfl, rfl⟩
    · have kCu := kC W5 g hb5 hgW (DcB.of hG4)
      by_cases ht0 : tx < 0
      · have hq1 : ¬ tx ≥ 0 := by omega
        clear hno
        go_upto_region 10 with (fail)
        clear s4 s5 hS4 sl h1 h2
        go_wp2_with (first | (go_at_call 26; (with_reducible refine kCu.mono ?_); rintro e w6 ⟨hb6, hk6⟩; obtain ⟨p, q, r, y, rfl, o1, o2, o3⟩ := hE _ _ hk6) | (refine putM rfl _ _ rfl (bs + 1) p q r rfl rfl ⟨o1, o2, o3⟩ _ rfl (hR4.below hb6) ?_; simp only [Act.put, List.setIfInBounds_toArray, List.set_cons_succ, List.set_cons_zero]) | fail)
        exact bodyPost_ret (ret2M (p := 10) (u := 11) rfl _ _ (bs + 1) _ _ _ _ rfl rfl ((hR4.below hb6).setRow _)) rfl ⟨bel_setRow (bel_trans hb5 hb6) (by omega) _, hKr _ _ _ _ hk6 (hR4.below hb6)⟩
      · have hq1 : tx ≥ 0 := by omega
        have hq2 : ¬ ht > 0 := by omega
        clear hno
        go_upto_region 10 with (fail)
        clear s4 s5 hS4 sl h1 h2
        go_wp2_with (first | (go_at_call 26; (with_reducible refine kCu.mono ?_); rintro e w6 ⟨hb6, hk6⟩; obtain ⟨p, q, r, y, rfl, o1, o2, o3⟩ := hE _ _ hk6) | (refine putM rfl _ _ rfl (bs + 1) p q r rfl rfl ⟨o1, o2, o3⟩ _ rfl (hR4.below hb6) ?_; simp only [Act.put, List.setIfInBounds_toArray, List.set_cons_succ, List.set_cons_zero]) | fail)
        exact bodyPost_ret (ret2M (p := 10) (u := 11) rfl _ _ (bs + 1) _ _ _ _ rfl rfl ((hR4.below hb6).setRow _)) rfl ⟨bel_setRow (bel_trans hb5 hb6) (by omega) _, hKr _ _ _ _ hk6 (hR4.below hb6)⟩
    · have hq1 : tx ≥ 0 := hy1
      have hq2 : ht > 0 := hy2
      obtain ⟨k, rfl⟩ : ∃ k : Nat, tx = (k : Int) := ⟨tx.toNat, by omega⟩
      have hk2 : (k : Int) < (n : Int) := ht1.2
      rw [Int.toNat_natCast] at kC
      have g72 : W5.cell? ⟨g, 72, none⟩ = some (.pointer none) := (hG4.cell 72).trans rfl
      have f72 := hG4.frozen 72
      have gl := hG4.lt
      go_upto_region 10 with (fail)
      have hG6 := hG4.set 72 (.pointer (some ⟨b, o + k * 4, none⟩))
      rw [dc_setT] at hG6
      have hR6 := hR4.far 72 (.pointer (some ⟨b, o + k * 4, none⟩)) hgr
      have hb6' := bel_set hb5 (p := ⟨g, 72, none⟩) hgW (.pointer (some ⟨b, o + k * 4, none⟩))
      clear hG4 hR4 hb5 g72 f72 s4 s5 hS4 sl h1 h2
      generalize W5.setCell ⟨g, 72, none⟩ (.pointer (some ⟨b, o + k * 4, none⟩)) = W6 at *
      have kCu := kC W6 g hb6' hgW (DcB.of hG6)
      go_wp2_with (first | (go_at_call 26; (with_reducible refine kCu.mono ?_); rintro e w6 ⟨hb6, hk6⟩; obtain ⟨p, q, r, y, rfl, o1, o2, o3⟩ := hE _ _ hk6) | (refine putM rfl _ _ rfl (bs + 1) p q r rfl rfl ⟨o1, o2, o3⟩ _ rfl (hR6.below hb6) ?_; simp only [Act.put, List.setIfInBounds_toArray, List.set_cons_succ, List.set_cons_zero]) | fail)
      exact bodyPost_ret (ret2M (p := 10) (u := 11) rfl _ _ (bs + 1) _ _ _ _ rfl rfl ((hR6.below hb6).setRow _)) rfl ⟨bel_setRow (bel_trans hb6' hb6) (by omega) _, hKr _ _ _ _ hk6 (hR6.below hb6)⟩
end Go.Proofs.Ytpaehkjnefgaiaa
