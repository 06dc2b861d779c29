/- Two arrays of four whole numbers compared. What a curve's and a patch's points keep: within the box of what tells them, told backwards, along a side, moved, rising. Meshes, the pure side: where spots are, their directions, their keys; what is wrong with a patch and its skin. Ways along faces, as the program goes along them; chains of ways about a vertex. No program is imported. Fans: the chain of ways about a vertex that the program goes along; hubs; the edges. No program is imported. The maps of package topo: which face goes along each way; of each vertex the last face that it was met in. -/
import Derived.Below
import Derived.Maps.OwnOps
import Derived.Maps.OwnSet
import Derived.Maps.RangeWalk
import Derived.DeepKeys4
import Derived.Test.YtpaehkjnefgaiaaProg
import Derived.Test.YtpaehkjnefgaiaaC0
import Derived.Test.YtpaehkjnefgaiaaC4
import Derived.Test.YtpaehkjnefgaiaaC6
import Derived.Test.YtpaehkjnefgaiaaC7
import Derived.Test.YtpaehkjnefgaiaaC8
namespace Go.Proofs.Ytpaehkjnefgaiaa
open Go.RowKit
set_option linter.unusedVariables false
set_option linter.unusedSimpArgs false
set_option linter.unnecessarySimpa false
set_option maxRecDepth 100000
end Go.Proofs.Ytpaehkjnefgaiaa
namespace Go.Proofs.Ytpaehkjnefgaiaa
open Go.RowKit
set_option linter.unusedVariables false
set_option linter.unusedSimpArgs false
set_option linter.unnecessarySimpa false
theorem sm_of {u x : Nat → Int} {m : Nat} {d : Int} (hu : ∀ k, k < m → 0 ≤ u k) (hx : ∀ k, k < m → -65536 ≤ x k ∧ x k ≤ 65536) (ht : totW u m = d) (hd : 1 ≤ d ∧ d ≤ 16777216) : smB (sumW u x m) d :=
  ⟨part_bd hu hx (by rw [ht]; exact hd.2) (Nat.le_refl m), hd⟩
theorem mean_in {u x : Nat → Int} {m : Nat} {d lo hi : Int} (hu : ∀ k, k < m → 0 ≤ u k) (hx : ∀ k, k < m → -65536 ≤ x k ∧ x k ≤ 65536) (ht : totW u m = d) (hd : 1 ≤ d ∧ d ≤ 16777216) (hl : ∀ k, k < m → lo ≤ x k ∧ x k ≤ hi) : lo ≤ rnd (sumW u x m) d ∧ rnd (sumW u x m) d ≤ hi := by
  obtain ⟨a, b⟩ := sumW_bd m hu hl
  rw [ht] at a b
  exact rnd_mean (sm_of hu hx ht hd) a b
/-- What is told when a curve is there. -/
structure CurH (p : Nat → P3) (i n : Int) : Prop where
  n0 : 1 ≤ n
  n1 : n ≤ 16
  i0 : 0 ≤ i
  i1 : i ≤ n
  hp : okB p 4 = true
theorem cubK_iff {p : Nat → P3} {i n : Int} : cubK p i n = true ↔ CurH p i n := by
  unfold cubK
  rw [Bool.and_eq_true, thB_iff]
  exact ⟨fun h => ⟨h.1.1, h.1.2.1, h.1.2.2.1, h.1.2.2.2, h.2⟩, fun h => ⟨⟨h.n0, h.n1, h.i0, h.i1⟩, h.hp⟩⟩
structure PatH (p : Nat → P3) (i n j m : Int) : Prop where
  n0 : 1 ≤ n
  n1 : n ≤ 16
  i0 : 0 ≤ i
  i1 : i ≤ n
  m0 : 1 ≤ m
  m1 : m ≤ 16
  j0 : 0 ≤ j
  j1 : j ≤ m
  hp : okB p 16 = true
theorem ptK_iff {p : Nat → P3} {i n j m : Int} : ptK p i n j m = true ↔ PatH p i n j m := by
  unfold ptK
  rw [Bool.and_eq_true, Bool.and_eq_true, thB_iff, thB_iff]
  exact ⟨fun h => ⟨h.1.1.1, h.1.1.2.1, h.1.1.2.2.1, h.1.1.2.2.2, h.1.2.1, h.1.2.2.1, h.1.2.2.2.1, h.1.2.2.2.2, h.2⟩, fun h => ⟨⟨⟨h.n0, h.n1, h.i0, h.i1⟩, h.m0, h.m1, h.j0, h.j1⟩, h.hp⟩⟩
theorem cubP_yes {p : Nat → P3} {i n : Int} (h : CurH p i n) : cubP p i n = rnP (sumP (wt i n) p 4) (n * n * n) := by unfold cubP; rw [if_pos (cubK_iff.2 h)]
theorem ptP_yes {p : Nat → P3} {i n j m : Int} (h : PatH p i n j m) : ptP p i n j m = rnP (sumP (wt2 i n j m) p 16) (n * n * n * (m * m * m)) := by unfold ptP; rw [if_pos (ptK_iff.2 h)]
/-- A coordinate that sums and rounding go through. -/
structure Part (g : P3 → Int) : Prop where
  sum : ∀ u p m, g (sumP u p m) = sumW u (fun k => g (p k)) m
  rn : ∀ s d, g (rnP s d) = rnd (g s) d
  bd : ∀ q, wi q = true → -65536 ≤ g q ∧ g q ≤ 65536
theorem part_x : Part P3.x := ⟨fun _ _ _ => rfl, fun _ _ => rfl, fun _ h => (wi_bd h).1⟩
theorem part_y : Part P3.y := ⟨fun _ _ _ => rfl, fun _ _ => rfl, fun _ h => (wi_bd h).2.1⟩
theorem part_z : Part P3.z := ⟨fun _ _ _ => rfl, fun _ _ => rfl, fun _ h => (wi_bd h).2.2⟩
theorem cub_at {g : P3 → Int} (hg : Part g) {p : Nat → P3} {i n : Int} (h : CurH p i n) : g (cubP p i n) = rnd (sumW (wt i n) (fun k => g (p k)) 4) (n * n * n) := by rw [cubP_yes h, hg.rn, hg.sum]
theorem pt_at {g : P3 → Int} (hg : Part g) {p : Nat → P3} {i n j m : Int} (h : PatH p i n j m) : g (ptP p i n j m) = rnd (sumW (wt2 i n j m) (fun k => g (p k)) 16) (n * n * n * (m * m * m)) := by rw [ptP_yes h, hg.rn, hg.sum]
theorem CurH.bd {g : P3 → Int} (hg : Part g) {p : Nat → P3} {i n : Int} (h : CurH p i n) : ∀ k, k < 4 → -65536 ≤ g (p k) ∧ g (p k) ≤ 65536 := fun k hk => hg.bd _ (okB_all.1 h.hp k hk)
theorem PatH.bd {g : P3 → Int} (hg : Part g) {p : Nat → P3} {i n j m : Int} (h : PatH p i n j m) : ∀ k, k < 16 → -65536 ≤ g (p k) ∧ g (p k) ≤ 65536 := fun k hk => hg.bd _ (okB_all.1 h.hp k hk)
theorem pt_in {g : P3 → Int} (hg : Part g) {p : Nat → P3} {i n j m lo hi : Int} (h : PatH p i n j m) (hl : ∀ k, k < 16 → lo ≤ g (p k) ∧ g (p k) ≤ hi) : lo ≤ g (ptP p i n j m) ∧ g (ptP p i n j m) ≤ hi := by
  rw [pt_at hg h]
  exact mean_in (fun k _ => wt2_pos h.i0 h.i1 h.j0 h.j1 k) (h.bd hg) (wt2_tot i n j m) (cube2_bd h.n0 h.n1 h.m0 h.m1) hl
/-! told backwards -/
/-! along the sides -/
theorem row_ok {p : Nat → P3} (h : okB p 16 = true) (s : Int) (hs : s = 0 ∨ s = 1 ∨ s = 2 ∨ s = 3) : okB (rowF p s) 4 = true := okB_all.2 fun k hk => by
  rcases hs with rfl | rfl | rfl | rfl
  · exact okB_all.1 h k (by omega)
  · exact okB_all.1 h (4 * k + 3) (by omega)
  · exact okB_all.1 h (15 - k) (by omega)
  · exact okB_all.1 h (12 - 4 * k) (by omega)
/-! moved; rising -/
end Go.Proofs.Ytpaehkjnefgaiaa
namespace Go.Proofs.Ytpaehkjnefgaiaa
open Go.RowKit
set_option linter.unusedVariables false
set_option linter.unusedSimpArgs false
set_option linter.unnecessarySimpa false
/-- A patch: control points, corners, normals, the skin. -/
structure Pch where
  pt : Nat → P3
  co : Nat → Int
  nm : Nat → P3
  sk : Int
/-- A key: kind, of, A, B, N. -/
abbrev Ky := Int × Int × Int × Int × Int
/-- A texture's numbers. -/
structure TexD where
  nm : ByteArray
  W : Int
  H : Int
  rows : List Int
structure Msh where
  vs : List P3
  ks : List Ky
  ts : List Spt
def msR (p : Nat → P3) (u : Int) (k : Nat) : Int := edK (rowF p (k : Int)) u
def msr (p : Nat → P3) (u : Int) : Nat → Nat := rQ (msR p u)
/-- Where a spot is. -/
def msP (p : Nat → P3) (q : Nat → Int) (s : Spt) : P3 := if s.1 = 1 then rowF p s.2.1 0 else if s.1 = 2 then cubP (rowF p s.2.1) s.2.2 (q s.2.1.toNat) else ptP p s.2.1 (mxI q 4) s.2.2 (mxI q 4)
/-- Where to it is lifted. -/
def msD (n : Nat → P3) (q : Nat → Int) (s : Spt) : P3 := if s.1 = 1 then n s.2.1.toNat else if s.1 = 2 then blP (n s.2.1.toNat) (n ((s.2.1.toNat + 1) % 4)) s.2.2 (q s.2.1.toNat) else mxP n s.2.1 (mxI q 4) s.2.2 (mxI q 4)
/-- Its key. -/
def msK (co : Nat → Int) (cage id : Int) (q : Nat → Int) (s : Spt) : Ky :=
  if s.1 = 1 then (1, cage, co s.2.1.toNat, 0, 0)
  else if s.1 = 2 then (if co ((s.2.1.toNat + 1) % 4) < co s.2.1.toNat then (2, cage, co ((s.2.1.toNat + 1) % 4), co s.2.1.toNat, q s.2.1.toNat - s.2.2) else (2, cage, co s.2.1.toNat, co ((s.2.1.toNat + 1) % 4), s.2.2))
  else (3, id, s.2.1, s.2.2, 0)
/-- A spot is one of the rates'. -/
def spIn (q : Nat → Int) (s : Spt) : Prop := (∃ k : Nat, k < 4 ∧ s = corS k) ∨ (∃ k i : Nat, k < 4 ∧ 1 ≤ i ∧ (i : Int) < q k ∧ s = edgS k i) ∨ (∃ a b : Nat, 1 ≤ a ∧ (a : Int) < mxI q 4 ∧ 1 ≤ b ∧ (b : Int) < mxI q 4 ∧ s = innS a b)
theorem mxI_rQ {q : Nat → Int} (h : okQ q) : mxI q 4 = (mxR (rQ q) 4 : Int) := mxI_nat 4 (okQ_eq h)
theorem spIn_of {q : Nat → Int} (h : okQ q) {s : Spt} (hs : s ∈ spotsW (rQ q)) : spIn q s := by
  have hm := mxI_rQ h
  rcases mem_spots.1 hs with ⟨k, hk, e⟩ | ⟨k, i, hk, h1, h2, e⟩ | ⟨a, b, h1, h2, h3, h4, e⟩
  · exact .inl ⟨k, hk, e⟩
  · have := okQ_eq h k hk
    exact .inr (.inl ⟨k, i, hk, h1, by omega, e⟩)
  · exact .inr (.inr ⟨a, b, h1, by omega, h3, by omega, e⟩)
/-- What is wrong with a patch and its skin: 0, 11 or 21. -/
def allW (p : Nat → P3) (m : Int) : Nat → Bool
  | 0 => true
  | n + 1 => allW p m n && wB (p n) m
theorem allW_iff {p : Nat → P3} {m : Int} : ∀ {n : Nat}, allW p m n = true ↔ ∀ k, k < n → wB (p k) m = true
  | 0 => by simp [allW]
  | n + 1 => by
    rw [allW, Bool.and_eq_true, allW_iff]
    exact ⟨fun h k hk => if e : k < n then h.1 k e else by rw [show k = n by omega]; exact h.2, fun h => ⟨fun k hk => h k (by omega), h n (by omega)⟩⟩
theorem allW_no {p : Nat → P3} {m : Int} {n k : Nat} (hk : k < n) (h : wB (p k) m = false) : allW p m n = false := by
  cases e : allW p m n
  · rfl
  · rw [allW_iff.1 e k hk] at h; cases h
def skB (u h : Int) : Bool := decide (1 ≤ u ∧ 0 ≤ h ∧ h ≤ 255)
def msF (P : Pch) (u h : Int) : Int := if skB u h = false then 11 else if (allW P.pt 60000 16 && allW P.nm 1023 4) = true then 0 else 21
structure Fine (P : Pch) (u h : Int) : Prop where
  u1 : 1 ≤ u
  h0 : 0 ≤ h
  h1 : h ≤ 255
  pt : ∀ k, k < 16 → wB (P.pt k) 60000 = true
  nm : ∀ k, k < 4 → wB (P.nm k) 1023 = true
theorem fine_of {P : Pch} {u h : Int} (e : msF P u h = 0) : Fine P u h := by
  unfold msF at e
  split at e
  · omega
  · rename_i h1
    split at e
    · rename_i h2
      rw [Bool.and_eq_true, allW_iff, allW_iff] at h2
      have h3 : skB u h = true := by simpa using h1
      have h4 := of_decide_eq_true h3
      exact ⟨h4.1, h4.2.1, h4.2.2, h2.1, h2.2⟩
    · omega
theorem Fine.zero {P : Pch} {u h : Int} (f : Fine P u h) : msF P u h = 0 := by
  unfold msF
  rw [if_neg (by rw [show skB u h = true from decide_eq_true ⟨f.u1, f.h0, f.h1⟩]; simp), if_pos (by rw [Bool.and_eq_true, allW_iff, allW_iff]; exact ⟨f.pt, f.nm⟩)]
theorem wB_mono {q : P3} {m n : Int} (h : wB q m = true) (hn : m ≤ n) : wB q n = true := by
  rw [wB_iff] at h ⊢
  omega
theorem Fine.ok {P : Pch} {u h : Int} (f : Fine P u h) : okB P.pt 16 = true := okB_all.2 fun k hk => wB_mono (f.pt k hk) (by omega)
theorem Fine.ed {P : Pch} {u h : Int} (f : Fine P u h) (s : Int) (hs : s = 0 ∨ s = 1 ∨ s = 2 ∨ s = 3) : 1 ≤ edK (rowF P.pt s) u ∧ edK (rowF P.pt s) u ≤ 16 := by
  have hr := row_ok f.ok s hs
  unfold edK
  rw [if_pos ⟨hr, f.u1⟩]
  exact edF_bd (lenF_bd hr).1 f.u1
theorem Fine.q {P : Pch} {u h : Int} (f : Fine P u h) : okQ (msR P.pt u) := fun k hk => f.ed (k : Int) (by omega)
theorem Fine.most {P : Pch} {u h : Int} (f : Fine P u h) : 1 ≤ mxI (msR P.pt u) 4 ∧ mxI (msR P.pt u) 4 ≤ 16 := by
  have := most_bd (okQ_r f.q)
  rw [mxI_rQ f.q]
  omega
theorem msP_cor (p : Nat → P3) (q : Nat → Int) (k : Nat) : msP p q (corS k) = rowF p (k : Int) 0 := by unfold msP corS; rw [if_pos rfl]
theorem msP_edg (p : Nat → P3) (q : Nat → Int) (k i : Nat) : msP p q (edgS k i) = cubP (rowF p (k : Int)) (i : Int) (q k) := by
  unfold msP edgS
  rw [if_neg (by show ¬ (2 : Int) = 1; decide), if_pos rfl]
  simp only [Int.toNat_natCast]
theorem msP_inn (p : Nat → P3) (q : Nat → Int) (a b : Nat) : msP p q (innS a b) = ptP p (a : Int) (mxI q 4) (b : Int) (mxI q 4) := by
  unfold msP innS
  rw [if_neg (by show ¬ (3 : Int) = 1; decide), if_neg (by show ¬ (3 : Int) = 2; decide)]
theorem msD_cor (n : Nat → P3) (q : Nat → Int) (k : Nat) : msD n q (corS k) = n k := by unfold msD corS; rw [if_pos rfl]; simp only [Int.toNat_natCast]
theorem msD_edg (n : Nat → P3) (q : Nat → Int) (k i : Nat) : msD n q (edgS k i) = blP (n k) (n ((k + 1) % 4)) (i : Int) (q k) := by
  unfold msD edgS
  rw [if_neg (by show ¬ (2 : Int) = 1; decide), if_pos rfl]
  simp only [Int.toNat_natCast]
theorem msD_inn (n : Nat → P3) (q : Nat → Int) (a b : Nat) : msD n q (innS a b) = mxP n (a : Int) (mxI q 4) (b : Int) (mxI q 4) := by
  unfold msD innS
  rw [if_neg (by show ¬ (3 : Int) = 1; decide), if_neg (by show ¬ (3 : Int) = 2; decide)]
theorem rowF_in {p : Nat → P3} {s : Int} (hs : s = 0 ∨ s = 1 ∨ s = 2 ∨ s = 3) {k : Nat} (hk : k < 4) : ∃ j, j < 16 ∧ rowF p s k = p j := by
  unfold rowF
  rcases hs with rfl | rfl | rfl | rfl
  · exact ⟨k, by omega, rfl⟩
  · exact ⟨4 * k + 3, by omega, rfl⟩
  · exact ⟨15 - k, by omega, rfl⟩
  · exact ⟨12 - 4 * k, by omega, rfl⟩
theorem cub_in {g : P3 → Int} (hg : Part g) {p : Nat → P3} {i n lo hi : Int} (h : CurH p i n) (hl : ∀ k, k < 4 → lo ≤ g (p k) ∧ g (p k) ≤ hi) : lo ≤ g (cubP p i n) ∧ g (cubP p i n) ≤ hi := by
  rw [cub_at hg h]
  exact mean_in (fun k _ => wt_pos h.i0 h.i1 k) (h.bd hg) (wt_tot i n) ⟨(cube_bd h.n0 h.n1).1, by have := (cube_bd h.n0 h.n1).2; omega⟩ hl
/-- A spot's place is within the control points' box. -/
theorem msP_in {P : Pch} {u h : Int} (f : Fine P u h) {s : Spt} (hs : spIn (msR P.pt u) s) {g : P3 → Int} (hg : Part g) {lo hi : Int} (hl : ∀ k, k < 16 → lo ≤ g (P.pt k) ∧ g (P.pt k) ≤ hi) : lo ≤ g (msP P.pt (msR P.pt u) s) ∧ g (msP P.pt (msR P.pt u) s) ≤ hi := by
  have hm := f.most
  rcases hs with ⟨k, hk, rfl⟩ | ⟨k, i, hk, h1, h2, rfl⟩ | ⟨a, b, h1, h2, h3, h4, rfl⟩
  · rw [msP_cor]
    obtain ⟨j, hj, e⟩ := rowF_in (p := P.pt) (s := (k : Int)) (by omega) (show 0 < 4 by omega)
    rw [e]
    exact hl j hj
  · rw [msP_edg]
    have hq := f.q k hk
    exact cub_in hg ⟨hq.1, hq.2, by omega, by omega, row_ok f.ok _ (by omega)⟩ fun j hj => by
      obtain ⟨m, hm, e⟩ := rowF_in (p := P.pt) (s := (k : Int)) (by omega) hj
      rw [e]
      exact hl m hm
  · rw [msP_inn]
    exact pt_in hg ⟨hm.1, hm.2, by omega, by omega, hm.1, hm.2, by omega, by omega, f.ok⟩ hl
theorem msP_wi {P : Pch} {u h : Int} (f : Fine P u h) {s : Spt} (hs : spIn (msR P.pt u) s) : wB (msP P.pt (msR P.pt u) s) 60000 = true := by
  have hx := msP_in f hs part_x (lo := -60000) (hi := 60000) fun k hk => ⟨(wB_iff.1 (f.pt k hk)).2.1.1, (wB_iff.1 (f.pt k hk)).2.1.2⟩
  have hy := msP_in f hs part_y (lo := -60000) (hi := 60000) fun k hk => ⟨(wB_iff.1 (f.pt k hk)).2.2.1.1, (wB_iff.1 (f.pt k hk)).2.2.1.2⟩
  have hz := msP_in f hs part_z (lo := -60000) (hi := 60000) fun k hk => ⟨(wB_iff.1 (f.pt k hk)).2.2.2.1, (wB_iff.1 (f.pt k hk)).2.2.2.2⟩
  exact wB_iff.2 ⟨by omega, hx, hy, hz⟩
theorem mxP_within {n : Nat → P3} {i k j m : Int} (h : mxK n i k j m = true) : wB (mxP n i k j m) 1023 = true := by
  unfold mxP
  rw [if_pos h]
  unfold mxK at h
  rw [Bool.and_eq_true, Bool.and_eq_true] at h
  exact blP_within h.2
theorem blK_of {a b : P3} {i n : Int} (h : 1 ≤ n ∧ n ≤ 16 ∧ 0 ≤ i ∧ i ≤ n) (ha : wB a 1023 = true) (hb : wB b 1023 = true) : blK a b i n = true := by
  unfold blK
  rw [Bool.and_eq_true, Bool.and_eq_true]
  exact ⟨⟨decide_eq_true h, ha⟩, hb⟩
theorem mxK_of {n : Nat → P3} {i k j m : Int} (hi : 1 ≤ k ∧ k ≤ 16 ∧ 0 ≤ i ∧ i ≤ k) (hj : 1 ≤ m ∧ m ≤ 16 ∧ 0 ≤ j ∧ j ≤ m) (hn : ∀ c, c < 4 → wB (n c) 1023 = true) : mxK n i k j m = true := by
  have h1 := blK_of hi (hn 0 (by omega)) (hn 1 (by omega))
  have h2 := blK_of hi (hn 3 (by omega)) (hn 2 (by omega))
  unfold mxK
  rw [Bool.and_eq_true, Bool.and_eq_true]
  exact ⟨⟨h1, h2⟩, blK_of hj (blP_within h1) (blP_within h2)⟩
theorem msD_wi {P : Pch} {u h : Int} (f : Fine P u h) {s : Spt} (hs : spIn (msR P.pt u) s) : wB (msD P.nm (msR P.pt u) s) 1023 = true := by
  have hm := f.most
  rcases hs with ⟨k, hk, rfl⟩ | ⟨k, i, hk, h1, h2, rfl⟩ | ⟨a, b, h1, h2, h3, h4, rfl⟩
  · rw [msD_cor]; exact f.nm k hk
  · rw [msD_edg]
    have hq := f.q k hk
    exact blP_within (blK_of ⟨hq.1, hq.2, by omega, by omega⟩ (f.nm k hk) (f.nm _ (Nat.mod_lt _ (by omega))))
  · rw [msD_inn]
    exact mxP_within (mxK_of ⟨hm.1, hm.2, by omega, by omega⟩ ⟨hm.1, hm.2, by omega, by omega⟩ f.nm)
/-! lifted by a texture -/
def liP (t : TexD) (h : Int) (P : Pch) (q : Nat → Int) (s : Spt) : P3 := lfP (msP P.pt q s) (msD P.nm q s) (texV t.W t.H t.rows (msP P.pt q s)) h
theorem tex_lit {W H : Int} {rows : List Int} (hr : rightF W H rows = true) {p : P3} (hp : wi p = true) : texK W H rows p = true ∧ 0 ≤ texV W H rows p ∧ texV W H rows p ≤ 255 := by
  have hk : texK W H rows p = true := by unfold texK; rw [hr, hp]; rfl
  obtain ⟨hb, hi, e⟩ := texV_yes hk
  obtain ⟨_, _, _, ha⟩ := rightF_yes hr
  rw [e]
  exact ⟨hk, ha _ (List.getElem_mem hi)⟩
theorem lift_ok {P : Pch} {u h : Int} (f : Fine P u h) {s : Spt} (hs : spIn (msR P.pt u) s) {t : TexD} (hr : rightF t.W t.H t.rows = true) :
    texK t.W t.H t.rows (msP P.pt (msR P.pt u) s) = true ∧ lfK (msP P.pt (msR P.pt u) s) (msD P.nm (msR P.pt u) s) (texV t.W t.H t.rows (msP P.pt (msR P.pt u) s)) h = true := by
  have hp := msP_wi f hs
  obtain ⟨h1, h2⟩ := tex_lit hr (p := msP P.pt (msR P.pt u) s) (wB_mono hp (by omega))
  refine ⟨h1, ?_⟩
  unfold lfK
  rw [Bool.and_eq_true, Bool.and_eq_true, Bool.and_eq_true]
  exact ⟨⟨⟨wB_mono hp (by omega), msD_wi f hs⟩, decide_eq_true h2⟩, decide_eq_true ⟨f.h0, f.h1⟩⟩
theorem tex_bad {W H : Int} {rows : List Int} (hr : rightF W H rows = false) (p : P3) : texK W H rows p = false := by unfold texK; rw [hr]; rfl
/-- The texture that lifts, if there is one. -/
def msTx (ts : List TexD) (tx h : Int) : Option TexD := if 0 ≤ tx ∧ 0 < h then ts[tx.toNat]? else none
def msV (o : Option TexD) (h : Int) (P : Pch) (q : Nat → Int) (s : Spt) : P3 := match o with
  | none => msP P.pt q s
  | some t => liP t h P q s
def msE (P : Pch) (u h tx : Int) (ts : List TexD) : Int :=
  if tx < -1 ∨ (ts.length : Int) ≤ tx then 11 else if msF P u h = 0 then (match msTx ts tx h with | none => 0 | some t => if rightF t.W t.H t.rows = true then 0 else 11) else msF P u h
def meshF (P : Pch) (cage id u h tx : Int) (ts : List TexD) : Msh :=
  ⟨(spotsW (msr P.pt u)).map (msV (msTx ts tx h) h P (msR P.pt u)), (spotsW (msr P.pt u)).map (msK P.co cage id (msR P.pt u)), (trisW (msr P.pt u)).map trZ⟩
end Go.Proofs.Ytpaehkjnefgaiaa
namespace Go.Proofs.Ytpaehkjnefgaiaa
set_option linter.unusedVariables false
set_option linter.unusedSimpArgs false
/-- A way from a to b in face f; c is where that face comes from to a. -/
structure Way where
  a : Int
  b : Int
  f : Int
  c : Int
def wayR (f : Int) : Int → Int → List Int → List Way
  | _, _, [] => []
  | b, a, t :: r => ⟨a, t, f, b⟩ :: wayR f a t r
def waysF (f : Int) (x : List Int) : List Way := wayR f (x.getD (x.length - 2) 0) (x.getD (x.length - 1) 0) x
def waysL : Nat → List (List Int) → List Way
  | _, [] => []
  | k, x :: r => waysF k x ++ waysL (k + 1) r
theorem wayR_length (f : Int) : ∀ (x : List Int) (b a : Int), (wayR f b a x).length = x.length
  | [], _, _ => rfl
  | t :: r, b, a => by simp [wayR, wayR_length f r]
theorem wayR_get (f : Int) : ∀ (x : List Int) (b a : Int) (i : Nat) (h : i < x.length), (wayR f b a x)[i]? = some ⟨(b :: a :: x).getD (i + 1) 0, (b :: a :: x).getD (i + 2) 0, f, (b :: a :: x).getD i 0⟩
  | [], _, _, i, h => by simp at h
  | t :: r, b, a, 0, h => by simp [wayR]
  | t :: r, b, a, i + 1, h => by
    rw [wayR, List.getElem?_cons_succ, wayR_get f r a t i (by simpa using h)]
    simp [List.getD]
theorem waysF_length (f : Int) (x : List Int) : (waysF f x).length = x.length := wayR_length f x _ _
theorem mod1 {i n : Nat} (h : i < n) : (i + n - 1) % n = if i = 0 then n - 1 else i - 1 := by
  split
  · subst i; rw [Nat.zero_add]; exact Nat.mod_eq_of_lt (by omega)
  · rw [show i + n - 1 = i - 1 + n by omega, Nat.add_mod_right]; exact Nat.mod_eq_of_lt (by omega)
theorem mod2 {i n : Nat} (h : i < n) (hn : 2 ≤ n) : (i + n - 2) % n = if i = 0 then n - 2 else if i = 1 then n - 1 else i - 2 := by
  split
  · subst i; rw [Nat.zero_add]; exact Nat.mod_eq_of_lt (by omega)
  · split
    · subst i; rw [show 1 + n - 2 = n - 1 by omega]; exact Nat.mod_eq_of_lt (by omega)
    · rw [show i + n - 2 = i - 2 + n by omega, Nat.add_mod_right]; exact Nat.mod_eq_of_lt (by omega)
/-- The i-th way of a face, by the places of its corners. -/
theorem waysF_get (f : Int) (x : List Int) (hn : 2 ≤ x.length) (i : Nat) (h : i < x.length) :
    (waysF f x)[i]? = some ⟨x.getD ((i + x.length - 1) % x.length) 0, x.getD i 0, f, x.getD ((i + x.length - 2) % x.length) 0⟩ := by
  unfold waysF
  rw [wayR_get f x _ _ i h, mod1 h, mod2 h hn]
  match i, h with
  | 0, h => simp [List.getD]
  | 1, h => simp [List.getD]
  | i + 2, h => simp [List.getD]
theorem mem_waysF {f : Int} {x : List Int} (hn : 2 ≤ x.length) {w : Way} : w ∈ waysF f x ↔ ∃ i, i < x.length ∧ w = ⟨x.getD ((i + x.length - 1) % x.length) 0, x.getD i 0, f, x.getD ((i + x.length - 2) % x.length) 0⟩ := by
  constructor
  · intro h
    obtain ⟨i, hi⟩ := List.getElem?_of_mem h
    have hl : i < x.length := by rw [← waysF_length f x]; exact (List.getElem?_eq_some_iff.1 hi).1
    rw [waysF_get f x hn i hl] at hi
    exact ⟨i, hl, (Option.some.inj hi).symm⟩
  · rintro ⟨i, hl, rfl⟩
    exact List.mem_of_getElem? (waysF_get f x hn i hl)
theorem mod_back {i n : Nat} (h : i < n) (hn : 2 ≤ n) : ((i + n - 1) % n + n - 1) % n = (i + n - 2) % n ∧ (i + n - 1) % n < n := by
  have h2 : (i + n - 1) % n < n := Nat.mod_lt _ (by omega)
  refine ⟨?_, h2⟩
  rw [mod1 h2, mod2 h hn, mod1 h]
  repeat' split
  all_goals omega
theorem mod_inj {i k n : Nat} (h : i < n) (hk : k < n) (e : (i + n - 1) % n = (k + n - 1) % n) : i = k := by
  rw [mod1 h, mod1 hk] at e
  split at e <;> split at e <;> omega
/-- Ahead of a way there is one in its face, and behind it one. -/
theorem waysF_prev {f : Int} {x : List Int} (hn : 2 ≤ x.length) {w : Way} (h : w ∈ waysF f x) : ∃ d, (⟨w.c, w.a, f, d⟩ : Way) ∈ waysF f x := by
  obtain ⟨i, hi, rfl⟩ := (mem_waysF hn).1 h
  obtain ⟨e1, e2⟩ := mod_back hi hn
  exact ⟨x.getD (((i + x.length - 1) % x.length + x.length - 2) % x.length) 0, (mem_waysF hn).2 ⟨(i + x.length - 1) % x.length, e2, by simp only [e1]⟩⟩
theorem waysF_f {f : Int} {x : List Int} (hn : 2 ≤ x.length) {w : Way} (h : w ∈ waysF f x) : w.f = f := by
  obtain ⟨i, hi, rfl⟩ := (mem_waysF hn).1 h; rfl
theorem mem_waysL : ∀ (l : List (List Int)) (k : Nat) (w : Way), w ∈ waysL k l ↔ ∃ j, ∃ h : j < l.length, w ∈ waysF ((k + j : Nat) : Int) l[j]
  | [], k, w => by simp [waysL]
  | x :: r, k, w => by
    rw [waysL, List.mem_append, mem_waysL r (k + 1) w]
    constructor
    · rintro (h | ⟨j, hj, h⟩)
      · exact ⟨0, by simp, by simpa using h⟩
      · exact ⟨j + 1, by simpa using hj, by rw [List.getElem_cons_succ, show k + (j + 1) = k + 1 + j by omega]; exact h⟩
    · rintro ⟨j, hj, h⟩
      cases j with
      | zero => left; simpa using h
      | succ j => right; exact ⟨j, by simpa using hj, by rw [List.getElem_cons_succ, show k + (j + 1) = k + 1 + j by omega] at h; exact h⟩
theorem waysL_split : ∀ (l : List (List Int)) (k j : Nat) (h : j < l.length), waysL k l = waysL k (l.take j) ++ waysF ((k + j : Nat) : Int) l[j] ++ waysL (k + j + 1) (l.drop (j + 1))
  | [], _, j, h => by simp at h
  | x :: r, k, 0, h => by simp [waysL]
  | x :: r, k, j + 1, h => by
    have hj : j < r.length := by simpa using h
    simp only [List.take_succ_cons, waysL, List.getElem_cons_succ, List.drop_succ_cons, waysL_split r (k + 1) j hj, List.append_assoc]
    rw [show k + 1 + j = k + (j + 1) by omega]
def Long (fs : List (List Int)) : Prop := ∀ x ∈ fs, 3 ≤ x.length
def InR (n : Int) (al : List Way) : Prop := ∀ w ∈ al, 0 ≤ w.b ∧ w.b < n
def apart (x y : Way) : Prop := ¬(x.b = y.b ∧ x.f = y.f) ∧ ¬(x.a = y.a ∧ x.b = y.b)
def Apart (al : List Way) : Prop := al.Pairwise apart
theorem apart_symm {x y : Way} (h : apart x y) : apart y x := ⟨fun e => h.1 ⟨e.1.symm, e.2.symm⟩, fun e => h.2 ⟨e.1.symm, e.2.symm⟩⟩
theorem Apart.at_ {al : List Way} (h : Apart al) {p q : Nat} (hp : p < al.length) (hq : q < al.length) (hpq : p ≠ q) : apart al[p] al[q] := by
  rcases Nat.lt_or_ge p q with h' | h'
  · exact List.pairwise_iff_getElem.1 h p q hp hq h'
  · exact apart_symm (List.pairwise_iff_getElem.1 h q p hq hp (by omega))
theorem Apart.eq {al : List Way} (h : Apart al) {x y : Way} (hx : x ∈ al) (hy : y ∈ al) (hn : ¬ apart x y) : x = y := by
  obtain ⟨p, hp, rfl⟩ := List.getElem_of_mem hx
  obtain ⟨q, hq, rfl⟩ := List.getElem_of_mem hy
  by_cases e : p = q
  · subst e; rfl
  · exact absurd (h.at_ hp hq e) hn
theorem Apart.key {al : List Way} (h : Apart al) {x y : Way} (hx : x ∈ al) (hy : y ∈ al) (h1 : x.a = y.a) (h2 : x.b = y.b) : x = y := h.eq hx hy fun n => n.2 ⟨h1, h2⟩
theorem Apart.tof {al : List Way} (h : Apart al) {x y : Way} (hx : x ∈ al) (hy : y ∈ al) (h1 : x.b = y.b) (h2 : x.f = y.f) : x = y := h.eq hx hy fun n => n.1 ⟨h1, h2⟩
/-- The ways of some faces that are all right. -/
structure WalkOk (n : Int) (fs : List (List Int)) : Prop where
  long : Long fs
  inr : InR n (waysL 0 fs)
  apart : Apart (waysL 0 fs)
  pos : 0 ≤ n
  all : ∀ v, 0 ≤ v → v < n → ∃ w ∈ waysL 0 fs, w.b = v
theorem WalkOk.prev {n : Int} {fs : List (List Int)} (h : WalkOk n fs) {w : Way} (hw : w ∈ waysL 0 fs) : ∃ d, (⟨w.c, w.a, w.f, d⟩ : Way) ∈ waysL 0 fs := by
  obtain ⟨j, hj, hm⟩ := (mem_waysL fs 0 w).1 hw
  have hl := h.long _ (List.getElem_mem hj)
  obtain ⟨d, hd⟩ := waysF_prev (by omega) hm
  rw [← waysF_f (by omega) hm] at hd
  exact ⟨d, (mem_waysL fs 0 _).2 ⟨j, hj, by rw [waysF_f (by omega) hm] at hd ⊢; exact hd⟩⟩
/-- A face's corners are all different. -/
theorem WalkOk.corner {n : Int} {fs : List (List Int)} (h : WalkOk n fs) (j : Nat) (hj : j < fs.length) {i i2 : Nat} (hi : i < fs[j].length) (hi2 : i2 < fs[j].length) (e : fs[j].getD i 0 = fs[j].getD i2 0) : i = i2 := by
  apply Classical.byContradiction
  intro hne
  have hl := h.long _ (List.getElem_mem hj)
  have pl : ∀ (i : Nat) (hi : i < fs[j].length), (waysL 0 fs)[(waysL 0 (fs.take j)).length + i]? = (waysF ((0 + j : Nat) : Int) fs[j])[i]? := fun i hi => by
    rw [waysL_split fs 0 j hj, List.append_assoc, List.getElem?_append_right (by omega), List.getElem?_append_left (by rw [waysF_length]; omega)]
    congr 1; omega
  have l1 := pl _ hi
  have l2 := pl _ hi2
  rw [waysF_get _ _ (by omega) _ hi] at l1
  rw [waysF_get _ _ (by omega) _ hi2] at l2
  obtain ⟨b1, f1⟩ := List.getElem?_eq_some_iff.1 l1
  obtain ⟨b2, f2⟩ := List.getElem?_eq_some_iff.1 l2
  have := h.apart.at_ b1 b2 (by omega)
  rw [f1, f2] at this
  exact this.1 ⟨e, rfl⟩
/-- In a face each corner is the start of one way. -/
theorem WalkOk.fromf {n : Int} {fs : List (List Int)} (h : WalkOk n fs) {x y : Way} (hx : x ∈ waysL 0 fs) (hy : y ∈ waysL 0 fs) (h1 : x.a = y.a) (h2 : x.f = y.f) : x = y := by
  obtain ⟨j, hj, hm⟩ := (mem_waysL fs 0 x).1 hx
  obtain ⟨k, hk, hm2⟩ := (mem_waysL fs 0 y).1 hy
  have hl := h.long _ (List.getElem_mem hj)
  have hl2 := h.long _ (List.getElem_mem hk)
  have e1 := waysF_f (by omega) hm
  have e2 := waysF_f (by omega) hm2
  have : j = k := by rw [e1, e2] at h2; omega
  subst this
  obtain ⟨i, hi, e3⟩ := (mem_waysF (by omega)).1 hm
  obtain ⟨i2, hi2, e4⟩ := (mem_waysF (by omega)).1 hm2
  obtain ⟨m1, m2⟩ := mod_back hi (by omega)
  obtain ⟨m3, m4⟩ := mod_back hi2 (by omega)
  have p1 := (mem_waysL fs 0 _).2 ⟨j, hj, (mem_waysF (by omega)).2 ⟨_, m2, rfl⟩⟩
  have p2 := (mem_waysL fs 0 _).2 ⟨j, hk, (mem_waysF (by omega)).2 ⟨_, m4, rfl⟩⟩
  have e5 := h.apart.tof p1 p2 (by rw [e3, e4] at h1; exact h1) rfl
  have q1 : x.b = y.b := by
    have g1 := (mem_waysL fs 0 x).1 hx
    -- the places are the same: else two corners of the face are one
    by_cases e : (i + fs[j].length - 1) % fs[j].length = (i2 + fs[j].length - 1) % fs[j].length
    · have : i = i2 := mod_inj hi hi2 e
      subst this
      rw [e3, e4]
    · exfalso
      exact e (h.corner j hj m2 m4 (by rw [e3, e4] at h1; exact h1))
  exact h.apart.key hx hy h1 q1
theorem WalkOk.cinj {n : Int} {fs : List (List Int)} (h : WalkOk n fs) {x y : Way} (hx : x ∈ waysL 0 fs) (hy : y ∈ waysL 0 fs) (h1 : x.a = y.a) (h2 : x.c = y.c) : x = y := by
  obtain ⟨d, hd⟩ := h.prev hx
  obtain ⟨e, he⟩ := h.prev hy
  have this : (⟨x.c, x.a, x.f, d⟩ : Way) = ⟨y.c, y.a, y.f, e⟩ := h.apart.key hd he h2 h1
  have hf : x.f = y.f := by simpa using congrArg Way.f this
  exact h.fromf hx hy h1 hf
end Go.Proofs.Ytpaehkjnefgaiaa
namespace Go.Proofs.Ytpaehkjnefgaiaa
set_option linter.unusedVariables false
set_option linter.unusedSimpArgs false
theorem nodup_le {α : Type} : ∀ (L M : List α), L.Nodup → (∀ x ∈ L, x ∈ M) → L.length ≤ M.length
  | [], M, _, _ => Nat.zero_le _
  | x :: L, M, h, hs => by
    obtain ⟨s, t, rfl⟩ := List.append_of_mem (hs x (by simp))
    have h2 := List.nodup_cons.1 h
    have := nodup_le L (s ++ t) h2.2 fun y hy => by
      have := hs y (List.mem_cons_of_mem _ hy)
      simp only [List.mem_append, List.mem_cons] at this ⊢
      rcases this with h | rfl | h
      · exact .inl h
      · exact absurd hy h2.1
      · exact .inr h
    simp only [List.length_append, List.length_cons] at this ⊢
    omega
def froms (al : List Way) (v : Int) : List Way := al.filter fun w => w.a == v
theorem mem_froms {al : List Way} {v : Int} {w : Way} : w ∈ froms al v ↔ w ∈ al ∧ w.a = v := by simp [froms]
def ends (L : List Way) (start : Int) : Int := (L.getLast?.map Way.c).getD start
theorem ends_at {L : List Way} (start : Int) (h : 0 < L.length) : ends L start = (L[L.length - 1]'(by omega)).c := by
  unfold ends
  rw [List.getLast?_eq_getElem?, List.getElem?_eq_getElem (by omega)]; rfl
/-- A chain of ways about v, each behind the one ahead of it, begun at start and not yet come to it again. -/
structure FanC (al : List Way) (v start : Int) (L : List Way) : Prop where
  mem : ∀ w ∈ L, w ∈ al ∧ w.a = v
  first : ∀ h : 0 < L.length, L[0].b = start
  link : ∀ i (h : i + 1 < L.length), L[i + 1].b = L[i].c
  mid : ∀ i (h : i + 1 < L.length), L[i].c ≠ start
theorem FanC.nil (al : List Way) (v start : Int) : FanC al v start [] := ⟨by simp, fun h => by simp at h, fun i h => by simp at h, fun i h => by simp at h⟩
theorem FanC.nodup {n : Int} {fs : List (List Int)} (ok : WalkOk n fs) {v start : Int} {L : List Way} (h : FanC (waysL 0 fs) v start L) : L.Nodup := by
  rw [List.nodup_iff_pairwise_ne, List.pairwise_iff_getElem]
  intro i
  induction i with
  | zero =>
    intro j hi hj hij e
    have h1 := h.link (j - 1) (by omega)
    have h2 := h.mid (j - 1) (by omega)
    have h3 := h.first hi
    simp only [show j - 1 + 1 = j by omega] at h1
    rw [← e] at h1
    exact h2 (h1.symm.trans h3)
  | succ i ih =>
    intro j hi hj hij e
    have h1 := h.link (j - 1) (by omega)
    have h2 := h.link i hi
    simp only [show j - 1 + 1 = j by omega] at h1
    have m1 := h.mem _ (List.getElem_mem (show i < L.length by omega))
    have m2 := h.mem _ (List.getElem_mem (show j - 1 < L.length by omega))
    refine ih (j - 1) (by omega) (by omega) (by omega) (ok.cinj m1.1 m2.1 (m1.2.trans m2.2.symm) ?_)
    rw [← h2, ← h1, e]
theorem FanC.le {n : Int} {fs : List (List Int)} (ok : WalkOk n fs) {v start : Int} {L : List Way} (h : FanC (waysL 0 fs) v start L) : L.length ≤ (froms (waysL 0 fs) v).length :=
  nodup_le _ _ (h.nodup ok) fun w hw => mem_froms.2 (h.mem w hw)
/-- What the search answers: the ways that it has come along, and whether it came back to its start. -/
structure FanR (al : List Way) (v start : Int) (L : List Way) (r : Bool) : Prop extends FanC al v start L where
  back : r = true → L ≠ [] ∧ ends L start = start
  stop : r = false → (∀ w ∈ al, w.a = v → w.b ≠ ends L start) ∧ (L = [] ∨ ends L start ≠ start)
/-- The way from a to b, if there is one. -/
def look (al : List Way) (a b : Int) : Option Way := al.find? fun w => w.a == a && w.b == b
def faceOf (al : List Way) (a b : Int) : Int := ((look al a b).map Way.f).getD (-1)
def hubStep (al : List Way) (s : Int × Nat) (w : Way) : Int × Nat := (if s.2 = 0 ∨ look al w.b w.a = none then w.b else s.1, s.2 + 1)
def hubOf (al : List Way) (v : Int) (P : List Way) : Int × Nat := (froms P v).foldl (hubStep al) (0, 0)
theorem FanC.same {al : List Way} (hA : Apart al) {v start : Int} {L M : List Way} (h : FanC al v start L) (k : FanC al v start M) : ∀ i (h1 : i < L.length) (h2 : i < M.length), L[i] = M[i]
  | 0, h1, h2 => by
    have m1 := h.mem _ (List.getElem_mem h1)
    have m2 := k.mem _ (List.getElem_mem h2)
    exact hA.key m1.1 m2.1 (m1.2.trans m2.2.symm) ((h.first h1).trans (k.first h2).symm)
  | i + 1, h1, h2 => by
    have m1 := h.mem _ (List.getElem_mem h1)
    have m2 := k.mem _ (List.getElem_mem h2)
    refine hA.key m1.1 m2.1 (m1.2.trans m2.2.symm) ?_
    rw [h.link i h1, k.link i h2, FanC.same hA h k i (by omega) (by omega)]
theorem FanR.le {al : List Way} (hA : Apart al) {v start : Int} {L M : List Way} {r s : Bool} (h : FanR al v start L r) (k : FanR al v start M s) : M.length ≤ L.length := by
  apply Classical.byContradiction
  intro hlt
  have hl : L.length < M.length := by omega
  rcases Nat.eq_zero_or_pos L.length with h0 | h0
  · obtain rfl := List.eq_nil_of_length_eq_zero h0
    cases r with
    | true => exact (h.back rfl).1 rfl
    | false =>
      have m2 := k.mem _ (List.getElem_mem hl)
      exact (h.stop rfl).1 _ m2.1 m2.2 (k.first hl)
  · have e := h.toFanC.same hA k.toFanC (L.length - 1) (by omega) (by omega)
    have hen := ends_at start h0
    cases r with
    | true =>
      have := k.mid (L.length - 1) (by omega)
      rw [← e, ← hen] at this
      exact this (h.back rfl).2
    | false =>
      have m2 := k.mem _ (List.getElem_mem hl)
      have hk := k.link (L.length - 1) (by omega)
      simp only [show L.length - 1 + 1 = L.length by omega] at hk
      exact (h.stop rfl).1 _ m2.1 m2.2 (by rw [hk, ← e, hen])
/-- An edge: its two vertices, the lower first; the face that goes along it, the one that comes back; -1: none. -/
structure Ed where
  a : Int
  b : Int
  f : Int
  g : Int
def edOf (al : List Way) (a b : Int) : Ed := ⟨a, b, faceOf al a b, faceOf al b a⟩
def ltE (x y : Ed) : Prop := x.a < y.a ∨ (x.a = y.a ∧ x.b < y.b)
theorem ltE_irrefl (x : Ed) : ¬ ltE x x := by unfold ltE; omega
theorem ltE_trans {x y z : Ed} (h : ltE x y) (k : ltE y z) : ltE x z := by unfold ltE at *; omega
structure EdgesR (al : List Way) (es : List Ed) : Prop where
  sorted : es.Pairwise ltE
  mem : ∀ e, e ∈ es ↔ ∃ w ∈ al, e = edOf al (min w.a w.b) (max w.a w.b)
theorem sorted_one : ∀ (l m : List Ed), l.Pairwise ltE → m.Pairwise ltE → (∀ e, e ∈ l ↔ e ∈ m) → l = m
  | [], [], _, _, _ => rfl
  | [], y :: m, _, _, h => by have := (h y).2 (by simp); simp at this
  | x :: l, [], _, _, h => by have := (h x).1 (by simp); simp at this
  | x :: l, y :: m, hl, hm, h => by
    obtain ⟨l1, l2⟩ := List.pairwise_cons.1 hl
    obtain ⟨m1, m2⟩ := List.pairwise_cons.1 hm
    have e : x = y := by
      rcases List.mem_cons.1 ((h x).1 (by simp)) with e | e
      · exact e
      · rcases List.mem_cons.1 ((h y).2 (by simp)) with e2 | e2
        · exact e2.symm
        · exact absurd (ltE_trans (m1 x e) (l1 y e2)) (ltE_irrefl y)
    subst e
    rw [sorted_one l m l2 m2 fun z => ?_]
    have hz := h z
    simp only [List.mem_cons] at hz
    constructor
    · intro hz1
      rcases hz.1 (.inr hz1) with rfl | h2
      · exact absurd (l1 _ hz1) (ltE_irrefl _)
      · exact h2
    · intro hz1
      rcases hz.2 (.inr hz1) with rfl | h2
      · exact absurd (m1 _ hz1) (ltE_irrefl _)
      · exact h2
theorem EdgesR.one {al : List Way} {l m : List Ed} (h : EdgesR al l) (k : EdgesR al m) : l = m := sorted_one l m h.sorted k.sorted fun e => (h.mem e).trans (k.mem e).symm
/-- What Build tells of faces. -/
structure TopoT where
  es : List Ed
  fans : List (List Int)
  rs : List Bool
structure TopoS (n : Int) (fs : List (List Int)) (t : TopoT) : Prop where
  walk : WalkOk n fs
  edges : EdgesR (waysL 0 fs) t.es
  nf : (t.fans.length : Int) = n
  nr : (t.rs.length : Int) = n
  fan : ∀ (v : Nat) (h : v < t.fans.length) (h2 : v < t.rs.length), ∃ L, FanR (waysL 0 fs) v (hubOf (waysL 0 fs) v (waysL 0 fs)).1 L t.rs[v] ∧ L.length = (froms (waysL 0 fs) v).length ∧ t.fans[v] = L.map Way.f
end Go.Proofs.Ytpaehkjnefgaiaa
namespace Go.Proofs.Ytpaehkjnefgaiaa
open Go.RowKit
set_option linter.unusedVariables false
set_option linter.unusedSimpArgs false
set_option linter.unnecessarySimpa false
set_option maxRecDepth 100000
def i64B (x : Int) : Prop := -9223372036854775808 ≤ x ∧ x ≤ 9223372036854775807
theorem i64B.wf {x : Int} (h : i64B x) : (Lit.int .i64 x).wf = true := by
  unfold i64B at h
  simp only [Lit.wf, IntKind.min, IntKind.max, IntKind.bits, IntKind.signed, Bool.and_eq_true, decide_eq_true_eq]
  simp
  omega
def keyL (a b : Int) : Lit := .string (keyBytes [.int .i64 a, .int .i64 b])
def goD (f c : Int) : DataW Unit := .agg [.lit (.int .i64 f), .lit (.int .i64 c)]
/-- The datum of a map reads as these ways. -/
structure GoD (D : DataW Unit) (P : List Way) : Prop where
  rng : ∀ w ∈ P, i64B w.a ∧ i64B w.b
  has : ∀ a b, i64B a → i64B b → Maps.has D (keyL a b) = (look P a b).isSome
  val : ∀ a b w, i64B a → i64B b → look P a b = some w → ∀ zd, D.atKey (keyL a b) zd = goD w.f w.c
section
variable {ops : Array Oper} {rest : List Oper} {o : Oper} {a : Act} {Q : Exit → Act → World → Prop}
end
/-- Of each vertex the last face that it was met in. -/
structure LaD (D : DataW Unit) (P : List Way) : Prop where
  has : ∀ v, i64B v → (Maps.has D (.int .i64 v) = true ↔ ∃ x ∈ P, x.b = v)
  val : ∀ v, i64B v → Maps.has D (.int .i64 v) = true → ∃ x ∈ P, x.b = v ∧ (∀ zd, D.atKey (.int .i64 v) zd = .lit (.int .i64 x.f)) ∧ ∀ y ∈ P, y.b = v → y.f ≤ x.f
  size : ∃ M : List Int, M.Nodup ∧ (∀ v, v ∈ M ↔ ∃ x ∈ P, x.b = v) ∧ Maps.size D = M.length
def LaM (W : World) (B : Nat) (P : List Way) : Prop := ∃ D : DataW Unit, W.ownsMap Try.prog 3 (plainElem Try.prog 3) B P.length D ∧ LaD D P
theorem LaM.made (W : World) : LaM (W.alloc (.map #[] 0)) W.heap.size [] := ⟨.map [], World.ownsMap_made _ _ _ _, fun v _ => by simp [Maps.has], fun v _ h => by simp [Maps.has] at h, [], List.nodup_nil, by simp, rfl⟩
theorem LaM.kept {W W' : World} {B : Nat} {P : List Way} {row : Option Nat} (h : LaM W B P) (hg : W.grownBy W' row) (hne : some B ≠ row) : LaM W' B P := by
  obtain ⟨D, h1, h2⟩ := h; exact ⟨D, h1.kept hg hne, h2⟩
theorem LaM.lt {W : World} {B : Nat} {P : List Way} (h : LaM W B P) : B < W.heap.size := by
  obtain ⟨D, h1, h2⟩ := h; exact h1.lt
section
variable {ops : Array Oper} {rest : List Oper} {o : Oper} {a : Act} {Q : Exit → Act → World → Prop}
end
end Go.Proofs.Ytpaehkjnefgaiaa
