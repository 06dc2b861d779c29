/- Lines against edges and triangles, in whole numbers. No program is imported. Where a ray is within a box, in fractions of whole numbers. No program is imported. Trees of boxes, the pure side: the least box, the order, the tree, how it is laid, what is touched. No program is imported. Calls that answer a value and leave what was there as it was: one word for their contracts, and what a region of such calls comes to. No program is imported. Blocks of the call's own under calls that leave them: stores go through to the block that they write. No program is imported. Plain facts on whole numbers of 128 bits as two halves. No program is imported. -/
import Derived.Below
import Derived.Deep.Draws
import Derived.Deep.QuietTactic
import Derived.BigQuiet
import Derived.WalkKit
import Derived.WalkLawsBesides
import Derived.Lib.Hide
import Derived.Laws.Rows
import Derived.Laws.Tables
import Derived.Deep.WholeRow
import Derived.LoopN
import Derived.Deep.DeepCutAuto
import Derived.IntWalk
import Derived.RowKit
import Derived.Laws.Bits64b
import Derived.Lib.Mul64
import Derived.Laws.Externs
import Derived.Shelf.Spec.BitsCarry
namespace Go.Proofs.Ythadlpkdfnonjaa
set_option linter.unusedVariables false
set_option linter.unusedSimpArgs false
structure P3 where
  x : Int
  y : Int
  z : Int
def dt (a b : P3) : Int := a.x * b.x + a.y * b.y + a.z * b.z
def sb (a b : P3) : P3 := ⟨a.x - b.x, a.y - b.y, a.z - b.z⟩
def cr (a b : P3) : P3 := ⟨a.y * b.z - a.z * b.y, a.z * b.x - a.x * b.z, a.x * b.y - a.y * b.x⟩
def turn (o d a b : P3) : Int := dt d (cr (sb a o) (sb b o))
def grw (d a b : P3) : P3 := cr (sb a b) d
def nrm (a b c : P3) : P3 := cr (sb b a) (sb c a)
def sgn (n : Int) : Int := if n < 0 then -1 else if 0 < n then 1 else 0
def orI (t x y z : Int) : Int := if t ≠ 0 then t else if x ≠ 0 then x else if y ≠ 0 then y else z
/-- The side on which a line passes an edge. -/
def pS (o d a b : P3) : Int := sgn (orI (turn o d a b) (grw d a b).x (grw d a b).y (grw d a b).z)
/-- Within the bounds of points, of directions. -/
def InP (m : Int) (a : P3) : Prop := (-m ≤ a.x ∧ a.x ≤ m) ∧ (-m ≤ a.y ∧ a.y ≤ m) ∧ -m ≤ a.z ∧ a.z ≤ m
def Sp (a : P3) : Prop := InP 65536 a
def Dr (a : P3) : Prop := InP 32768 a
end Go.Proofs.Ythadlpkdfnonjaa
namespace Go.Proofs.Ythadlpkdfnonjaa
set_option linter.unusedVariables false
set_option linter.unusedSimpArgs false
structure Fr where
  n : Int
  d : Int
/-- Below, and no more than, by products across. -/
def ltF (a b : Fr) : Bool := decide (a.n * b.d < b.n * a.d)
def leF (a b : Fr) : Prop := a.n * b.d ≤ b.n * a.d
def inF (f s l h : Int) : Fr := if 0 < s then ⟨l - f, s⟩ else ⟨f - h, -s⟩
def outF (f s l h : Int) : Fr := if 0 < s then ⟨h - f, s⟩ else ⟨f - l, -s⟩
/-- One part of a ray against one part of a box. -/
def partR (x : Option (Fr × Fr)) (f s l h : Int) : Option (Fr × Fr) :=
  match x with
  | none => none
  | some (lo, hi) =>
    if h < l then none
    else if s = 0 then (if f < l ∨ h < f then none else some (lo, hi))
    else some (if ltF lo (inF f s l h) then inF f s l h else lo, if ltF (outF f s l h) hi then outF f s l h else hi)
def lastR (x : Option (Fr × Fr)) : Option (Fr × Fr) :=
  match x with
  | none => none
  | some (lo, hi) => if ltF hi lo then none else some (lo, hi)
/-- The range of a ray in a box. -/
def rangeM (o d l h : P3) : Option (Fr × Fr) := lastR (partR (partR (partR (some (⟨0, 1⟩, ⟨1, 0⟩)) o.x d.x l.x h.x) o.y d.y l.y h.y) o.z d.z l.z h.z)
/-- A fraction that a range's ends may be. -/
def okLo (a : Fr) : Prop := 0 < a.d ∧ 0 ≤ a.n
def okHi (a : Fr) : Prop := 0 < a.d ∨ (a.n = 1 ∧ a.d = 0)
theorem mul_le_r {a b c : Int} (h : a ≤ b) (hc : 0 ≤ c) : a * c ≤ b * c := Int.mul_le_mul_of_nonneg_right h hc
theorem le_of_mul {a b c : Int} (hc : 0 < c) (h : a * c ≤ b * c) : a ≤ b := Int.le_of_mul_le_mul_right h hc
/-- From one to the next, the middle one being a true fraction. -/
theorem le_mid {a b c : Fr} (ha : 0 ≤ a.d) (hb : 0 < b.d) (hc : 0 ≤ c.d) (h1 : leF a b) (h2 : leF b c) : leF a c := by
  unfold leF at *
  have e1 := mul_le_r h1 hc
  have e2 := mul_le_r h2 ha
  refine le_of_mul hb ?_
  have f1 : a.n * c.d * b.d = a.n * b.d * c.d := by grind
  have f2 : c.n * a.d * b.d = c.n * b.d * a.d := by grind
  have f3 : b.n * a.d * c.d = b.n * c.d * a.d := by grind
  omega
theorem le_refl_F (a : Fr) : leF a a := Int.le_refl _
theorem le_total_F (a b : Fr) : leF a b ∨ leF b a := by unfold leF; omega
theorem lt_not_le (a b : Fr) : ltF a b = true ↔ ¬ leF b a := by unfold ltF leF; simp
theorem lt_false {a b : Fr} : ltF a b = false ↔ leF b a := by unfold ltF leF; simp
theorem inF_d {f s l h : Int} (hs : s ≠ 0) : 0 < (inF f s l h).d := by unfold inF; split <;> simp only <;> omega
theorem outF_d {f s l h : Int} (hs : s ≠ 0) : 0 < (outF f s l h).d := by unfold outF; split <;> simp only <;> omega
theorem pick_lo {lo i : Fr} : (if ltF lo i then i else lo) = lo ∧ leF i lo ∨ (if ltF lo i then i else lo) = i ∧ leF lo i := by
  by_cases h : ltF lo i = true
  · right
    rw [if_pos h]
    have := (lt_not_le _ _).1 h
    exact ⟨rfl, by rcases le_total_F lo i with g | g; exact g; exact absurd g this⟩
  · left
    rw [if_neg h]
    exact ⟨rfl, lt_false.1 (by simpa using h)⟩
theorem pick_hi {hi u : Fr} : (if ltF u hi then u else hi) = hi ∧ leF hi u ∨ (if ltF u hi then u else hi) = u ∧ leF u hi := by
  by_cases h : ltF u hi = true
  · right
    rw [if_pos h]
    have := (lt_not_le _ _).1 h
    exact ⟨rfl, by rcases le_total_F u hi with g | g; exact g; exact absurd g this⟩
  · left
    rw [if_neg h]
    exact ⟨rfl, lt_false.1 (by simpa using h)⟩
theorem part_ok {lo hi : Fr} {f s l h : Int} {r : Fr × Fr} (h1 : okLo lo) (h2 : okHi hi) (h3 : partR (some (lo, hi)) f s l h = some r) : okLo r.1 ∧ okHi r.2 := by
  unfold partR at h3
  simp only at h3
  split at h3
  · cases h3
  · split at h3
    · split at h3
      · cases h3
      · cases h3; exact ⟨h1, h2⟩
    · rename_i hs
      cases h3
      constructor
      · rcases pick_lo (lo := lo) (i := inF f s l h) with ⟨e, g⟩ | ⟨e, g⟩
        · simp only; rw [e]; exact h1
        · simp only
          rw [e]
          refine ⟨inF_d hs, ?_⟩
          unfold leF at g
          have hd := inF_d (f := f) (l := l) (h := h) hs
          have g0 : 0 ≤ lo.n * (inF f s l h).d := Int.mul_nonneg h1.2 (by omega)
          have : 0 * lo.d ≤ (inF f s l h).n * lo.d := by rw [Int.zero_mul]; omega
          exact le_of_mul h1.1 this
      · rcases pick_hi (hi := hi) (u := outF f s l h) with ⟨e, g⟩ | ⟨e, g⟩
        · simp only; rw [e]; exact h2
        · simp only; rw [e]; exact .inl (outF_d hs)
/-! moved, mirrored, faster -/
end Go.Proofs.Ythadlpkdfnonjaa
namespace Go.Proofs.Ythadlpkdfnonjaa
set_option linter.unusedVariables false
set_option linter.unusedSimpArgs false
set_option linter.unnecessarySimpa false
structure Bx where
  lo : P3
  hi : P3
def jnB (a b : Bx) : Bx := ⟨⟨min a.lo.x b.lo.x, min a.lo.y b.lo.y, min a.lo.z b.lo.z⟩, ⟨max a.hi.x b.hi.x, max a.hi.y b.hi.y, max a.hi.z b.hi.z⟩⟩
/-- a is within b. -/
def WnB (a b : Bx) : Prop := (b.lo.x ≤ a.lo.x ∧ b.lo.y ≤ a.lo.y ∧ b.lo.z ≤ a.lo.z) ∧ a.hi.x ≤ b.hi.x ∧ a.hi.y ≤ b.hi.y ∧ a.hi.z ≤ b.hi.z
theorem p3_eq {a b : P3} (h1 : a.x = b.x) (h2 : a.y = b.y) (h3 : a.z = b.z) : a = b := by
  cases a; cases b; simp only at h1 h2 h3; subst h1 h2 h3; rfl
theorem bx_eq {a b : Bx} (h1 : a.lo = b.lo) (h2 : a.hi = b.hi) : a = b := by
  cases a; cases b; simp only at h1 h2; subst h1 h2; rfl
theorem jn_of {n b : Bx} (h : WnB b n) : jnB n b = n := by
  obtain ⟨⟨h1, h2, h3⟩, h4, h5, h6⟩ := h
  refine bx_eq (p3_eq ?_ ?_ ?_) (p3_eq ?_ ?_ ?_) <;> simp only [jnB] <;> omega
theorem wn_refl (b : Bx) : WnB b b := ⟨⟨by omega, by omega, by omega⟩, by omega, by omega, by omega⟩
theorem wn_trans {a b c : Bx} (h : WnB a b) (k : WnB b c) : WnB a c := by
  obtain ⟨⟨h1, h2, h3⟩, h4, h5, h6⟩ := h
  obtain ⟨⟨k1, k2, k3⟩, k4, k5, k6⟩ := k
  exact ⟨⟨by omega, by omega, by omega⟩, by omega, by omega, by omega⟩
theorem wn_l (a b : Bx) : WnB a (jnB a b) := by unfold jnB; exact ⟨⟨by simp only; omega, by simp only; omega, by simp only; omega⟩, by simp only; omega, by simp only; omega, by simp only; omega⟩
theorem wn_r (a b : Bx) : WnB b (jnB a b) := by unfold jnB; exact ⟨⟨by simp only; omega, by simp only; omega, by simp only; omega⟩, by simp only; omega, by simp only; omega, by simp only; omega⟩
theorem wn_jn {a b c : Bx} (h : WnB a c) (k : WnB b c) : WnB (jnB a b) c := by
  obtain ⟨⟨h1, h2, h3⟩, h4, h5, h6⟩ := h
  obtain ⟨⟨k1, k2, k3⟩, k4, k5, k6⟩ := k
  unfold jnB; exact ⟨⟨by simp only; omega, by simp only; omega, by simp only; omega⟩, by simp only; omega, by simp only; omega, by simp only; omega⟩
def foldB (B : Nat → Bx) (b : Bx) (L : List Nat) : Bx := L.foldl (fun a k => jnB a (B k)) b
/-- The least box of so many. -/
def bxL (B : Nat → Bx) : List Nat → Bx
  | [] => ⟨⟨0, 0, 0⟩, ⟨0, 0, 0⟩⟩
  | i :: L => foldB B (B i) L
theorem foldB_snoc (B : Nat → Bx) (b : Bx) (L : List Nat) (k : Nat) : foldB B b (L ++ [k]) = jnB (foldB B b L) (B k) := by simp [foldB]
theorem foldB_base (B : Nat → Bx) : ∀ (L : List Nat) (b : Bx), WnB b (foldB B b L)
  | [], b => wn_refl b
  | i :: L, b => wn_trans (wn_l b (B i)) (foldB_base B L (jnB b (B i)))
theorem foldB_mem (B : Nat → Bx) : ∀ (L : List Nat) (b : Bx) (i : Nat), i ∈ L → WnB (B i) (foldB B b L)
  | [], b, i, h => by simp at h
  | k :: L, b, i, h => by
    rcases List.mem_cons.1 h with rfl | h
    · exact wn_trans (wn_r b (B i)) (foldB_base B L _)
    · exact foldB_mem B L _ i h
theorem foldB_least (B : Nat → Bx) (c : Bx) : ∀ (L : List Nat) (b : Bx), WnB b c → (∀ i ∈ L, WnB (B i) c) → WnB (foldB B b L) c
  | [], b, h, _ => h
  | i :: L, b, h, k => foldB_least B c L _ (wn_jn h (k i (by simp))) fun j hj => k j (by simp [hj])
theorem bxL_mem (B : Nat → Bx) {L : List Nat} {i : Nat} (h : i ∈ L) : WnB (B i) (bxL B L) := by
  cases L with
  | nil => simp at h
  | cons k L =>
    rcases List.mem_cons.1 h with rfl | h
    · exact foldB_base B L _
    · exact foldB_mem B L _ i h
theorem bxL_sub (B : Nat → Bx) {L M : List Nat} (h : ∀ i ∈ L, i ∈ M) (hL : L ≠ []) : WnB (bxL B L) (bxL B M) := by
  cases L with
  | nil => exact absurd rfl hL
  | cons k L => exact foldB_least B _ L _ (bxL_mem B (h k (by simp))) fun i hi => bxL_mem B (h i (by simp [hi]))
theorem bxL_one (B : Nat → Bx) {L : List Nat} (h : 0 < L.length) : bxL B (L.take 1) = B L[0] := by
  cases L with
  | nil => simp at h
  | cons i L => rfl
theorem bxL_next (B : Nat → Bx) {L : List Nat} {k : Nat} (h0 : 0 < k) (h : k < L.length) : bxL B (L.take (k + 1)) = jnB (bxL B (L.take k)) (B L[k]) := by
  cases L with
  | nil => simp at h
  | cons i L =>
    cases k with
    | zero => omega
    | succ k =>
      have hk : k < L.length := by simpa using h
      rw [List.take_succ_cons, List.take_succ_cons]
      show foldB B (B i) (L.take (k + 1)) = jnB (foldB B (B i) (L.take k)) (B L[k])
      rw [List.take_succ_eq_append_getElem hk, foldB_snoc]
/-- Lo and Hi together. -/
def mdB (b : Bx) : P3 := ⟨b.lo.x + b.hi.x, b.lo.y + b.hi.y, b.lo.z + b.hi.z⟩
def mB (B : Nat → Bx) (i : Nat) : Bx := ⟨mdB (B i), mdB (B i)⟩
def ptA (p : P3) : Nat → Int
  | 0 => p.x
  | 1 => p.y
  | _ => p.z
def axN (x y z : Int) : Nat := if y ≤ x ∧ z ≤ x then 0 else if z ≤ y then 1 else 2
def axB (b : Bx) : Nat := axN (b.hi.x - b.lo.x) (b.hi.y - b.lo.y) (b.hi.z - b.lo.z)
/-- The part by which so many are sorted. -/
def axL (B : Nat → Bx) (L : List Nat) : Nat := axB (bxL (mB B) L)
/-- i stands before k, or is it. -/
def leB (B : Nat → Bx) (a : Nat) (i k : Nat) : Prop := ptA (mdB (B i)) a < ptA (mdB (B k)) a ∨ (ptA (mdB (B i)) a = ptA (mdB (B k)) a ∧ i ≤ k)
instance decLe (B : Nat → Bx) (a i k : Nat) : Decidable (leB B a i k) := by unfold leB; infer_instance
theorem leB_anti {B : Nat → Bx} {a i k : Nat} (h : leB B a i k) (g : leB B a k i) : i = k := by unfold leB at *; omega
theorem leB_tot (B : Nat → Bx) (a i k : Nat) : leB B a i k ∨ leB B a k i := by unfold leB; omega
theorem leB_trans {B : Nat → Bx} {a i j k : Nat} (h : leB B a i j) (g : leB B a j k) : leB B a i k := by unfold leB at *; omega
def insB (B : Nat → Bx) (a x : Nat) : List Nat → List Nat
  | [] => [x]
  | y :: t => if leB B a x y then x :: y :: t else y :: insB B a x t
def srtB (B : Nat → Bx) (a : Nat) (L : List Nat) : List Nat := L.foldr (insB B a) []
theorem insB_perm (B : Nat → Bx) (a x : Nat) : ∀ L, (insB B a x L).Perm (x :: L)
  | [] => .refl _
  | y :: t => by
    unfold insB
    split
    · exact .refl _
    · exact ((insB_perm B a x t).cons y).trans (.swap x y t)
theorem insB_pw (B : Nat → Bx) (a x : Nat) : ∀ L : List Nat, L.Pairwise (leB B a) → (insB B a x L).Pairwise (leB B a)
  | [], _ => by simp [insB]
  | y :: t, h => by
    rw [List.pairwise_cons] at h
    unfold insB
    split
    · rename_i hxy
      refine List.pairwise_cons.2 ⟨fun z hz => ?_, List.pairwise_cons.2 h⟩
      rcases List.mem_cons.1 hz with rfl | hz
      · exact hxy
      · exact leB_trans hxy (h.1 z hz)
    · rename_i hxy
      refine List.pairwise_cons.2 ⟨fun z hz => ?_, insB_pw B a x t h.2⟩
      rcases List.mem_cons.1 ((insB_perm B a x t).mem_iff.1 hz) with rfl | hz
      · exact (leB_tot B a z y).resolve_left hxy
      · exact h.1 z hz
theorem srtB_perm (B : Nat → Bx) (a : Nat) : ∀ L, (srtB B a L).Perm L
  | [] => .refl _
  | x :: L => (insB_perm B a x _).trans ((srtB_perm B a L).cons x)
theorem srtB_pw (B : Nat → Bx) (a : Nat) : ∀ L, (srtB B a L).Pairwise (leB B a)
  | [] => List.Pairwise.nil
  | x :: L => insB_pw B a x _ (srtB_pw B a L)
theorem pw_unique {B : Nat → Bx} {a : Nat} : ∀ {L M : List Nat}, L.Perm M → L.Pairwise (leB B a) → M.Pairwise (leB B a) → L = M
  | [], M, h, _, _ => (List.Perm.nil_eq h)
  | x :: L, [], h, _, _ => absurd h.length_eq (by simp)
  | x :: L, y :: M, h, h1, h2 => by
    rw [List.pairwise_cons] at h1 h2
    have e : x = y := by
      rcases List.mem_cons.1 (h.mem_iff.1 (List.mem_cons_self)) with e | hx
      · exact e
      · rcases List.mem_cons.1 (h.mem_iff.2 (List.mem_cons_self)) with e | hy
        · exact e.symm
        · exact leB_anti (h1.1 y hy) (h2.1 x hx)
    subst e
    rw [pw_unique (List.Perm.cons_inv h) h1.2 h2.2]
theorem srtB_of {B : Nat → Bx} {a : Nat} {L M : List Nat} (hp : M.Perm L) (hw : M.Pairwise (leB B a)) : M = srtB B a L :=
  pw_unique (hp.trans (srtB_perm B a L).symm) hw (srtB_pw B a L)
theorem srtB_len (B : Nat → Bx) (a : Nat) (L : List Nat) : (srtB B a L).length = L.length := (srtB_perm B a L).length_eq
/-! the tree -/
inductive Tr where
  | leaf (f : Nat) (L : List Nat)
  | node (L : List Nat) (l r : Tr)
def Tr.root : Tr → List Nat
  | .leaf _ L => L
  | .node L _ _ => L
def Tr.sz : Tr → Nat
  | .leaf _ _ => 1
  | .node _ l r => 1 + l.sz + r.sz
def Tr.its : Tr → List Nat
  | .leaf _ L => L
  | .node _ l r => l.its ++ r.its
def growT (B : Nat → Bx) (leaf : Nat) : Nat → Nat → List Nat → Tr
  | 0, f, L => .leaf f L
  | k + 1, f, L => if L.length ≤ leaf then .leaf f L else
    .node L (growT B leaf k f ((srtB B (axL B L) L).take ((L.length + 1) / 2))) (growT B leaf k (f + (L.length + 1) / 2) ((srtB B (axL B L) L).drop ((L.length + 1) / 2)))
structure Nd where
  b : Bx
  f : Nat
  c : Nat
  l : Nat
  r : Nat
def Tr.lay (B : Nat → Bx) : Nat → Tr → List Nd
  | _, .leaf f L => [⟨bxL B L, f, L.length, 0, 0⟩]
  | at', .node L l r => ⟨bxL B L, 0, 0, at' + 1, at' + 1 + l.sz⟩ :: (l.lay B (at' + 1) ++ r.lay B (at' + 1 + l.sz))
theorem lay_len (B : Nat → Bx) : ∀ (t : Tr) (a : Nat), (t.lay B a).length = t.sz
  | .leaf _ _, _ => rfl
  | .node L l r, a => by simp only [Tr.lay, Tr.sz, List.length_cons, List.length_append, lay_len B l, lay_len B r]; omega
theorem sz_pos : ∀ t : Tr, 0 < t.sz
  | .leaf _ _ => by simp [Tr.sz]
  | .node _ l r => by simp only [Tr.sz]; omega
/-- What a tree keeps: no leaf is empty or too great; what is below a node is its items; where the leaves' items begin. -/
def Tr.Ok (leaf : Nat) : Nat → Tr → Prop
  | f, .leaf f' L => f' = f ∧ 0 < L.length ∧ L.length ≤ leaf
  | f, .node L l r => (l.its ++ r.its).Perm L ∧ l.Ok leaf f ∧ r.Ok leaf (f + l.its.length) ∧ l.root.Perm l.its ∧ r.root.Perm r.its
theorem grow_its (B : Nat → Bx) (leaf : Nat) : ∀ (k f : Nat) (L : List Nat), (growT B leaf k f L).its.Perm L
  | 0, _, _ => .refl _
  | k + 1, f, L => by
    unfold growT
    split
    · exact .refl _
    · refine ((grow_its B leaf k _ _).append (grow_its B leaf k _ _)).trans ?_
      rw [List.take_append_drop]
      exact srtB_perm B _ L
theorem grow_root (B : Nat → Bx) (leaf : Nat) : ∀ (k f : Nat) (L : List Nat), (growT B leaf k f L).root = L
  | 0, _, _ => rfl
  | k + 1, f, L => by unfold growT; split <;> rfl
theorem half_pow {n k : Nat} (h : n ≤ 2 ^ (k + 1)) : (n + 1) / 2 ≤ 2 ^ k ∧ n - (n + 1) / 2 ≤ 2 ^ k := by
  rw [Nat.pow_succ] at h; omega
theorem grow_ok (B : Nat → Bx) {leaf : Nat} (hl : 0 < leaf) : ∀ (k f : Nat) (L : List Nat), 0 < L.length → L.length ≤ 2 ^ k → (growT B leaf k f L).Ok leaf f
  | 0, f, L, h1, h2 => ⟨rfl, h1, by simp at h2; omega⟩
  | k + 1, f, L, h1, h2 => by
    unfold growT
    split
    · rename_i h; exact ⟨rfl, h1, h⟩
    · rename_i h
      have hp := half_pow h2
      have e1 : ((srtB B (axL B L) L).take ((L.length + 1) / 2)).length = (L.length + 1) / 2 := by rw [List.length_take, srtB_len]; omega
      have e2 : ((srtB B (axL B L) L).drop ((L.length + 1) / 2)).length = L.length - (L.length + 1) / 2 := by rw [List.length_drop, srtB_len]
      refine ⟨?_, grow_ok B hl k _ _ (by rw [e1]; omega) (by rw [e1]; exact hp.1), ?_, ?_, ?_⟩
      · refine ((grow_its B leaf k _ _).append (grow_its B leaf k _ _)).trans ?_
        rw [List.take_append_drop]
        exact srtB_perm B _ L
      · have := grow_ok B hl k (f + (L.length + 1) / 2) ((srtB B (axL B L) L).drop ((L.length + 1) / 2)) (by rw [e2]; omega) (by rw [e2]; exact hp.2)
        rw [(grow_its B leaf k _ _).length_eq, e1]; exact this
      · rw [grow_root]; exact (grow_its B leaf k _ _).symm
      · rw [grow_root]; exact (grow_its B leaf k _ _).symm
theorem ok_its {leaf : Nat} : ∀ {t : Tr} {f : Nat}, t.Ok leaf f → t.root.Perm t.its ∧ 0 < t.its.length
  | .leaf _ L, f, h => ⟨.refl _, h.2.1⟩
  | .node L l r, f, h => ⟨h.1.symm, by have := (ok_its h.2.1).2; simp only [Tr.its, List.length_append]; omega⟩
theorem grow_sz (B : Nat → Bx) {leaf : Nat} (hl : 0 < leaf) : ∀ (k f : Nat) (L : List Nat), 0 < L.length → L.length ≤ 2 ^ k → (growT B leaf k f L).sz + 1 ≤ 2 * L.length
  | 0, f, L, h1, h2 => by show 1 + 1 ≤ _; omega
  | k + 1, f, L, h1, h2 => by
    unfold growT
    split
    · show 1 + 1 ≤ _; omega
    · rename_i h
      have hp := half_pow h2
      have e1 : ((srtB B (axL B L) L).take ((L.length + 1) / 2)).length = (L.length + 1) / 2 := by rw [List.length_take, srtB_len]; omega
      have e2 : ((srtB B (axL B L) L).drop ((L.length + 1) / 2)).length = L.length - (L.length + 1) / 2 := by rw [List.length_drop, srtB_len]
      have h3 := grow_sz B hl k f ((srtB B (axL B L) L).take ((L.length + 1) / 2)) (by rw [e1]; omega) (by rw [e1]; exact hp.1)
      have h4 := grow_sz B hl k (f + (L.length + 1) / 2) ((srtB B (axL B L) L).drop ((L.length + 1) / 2)) (by rw [e2]; omega) (by rw [e2]; exact hp.2)
      simp only [Tr.sz]
      omega
/-! what is touched -/
def Tr.touch (B : Nat → Bx) (q : Bx → Bool) : Tr → List Nat
  | .leaf _ L => if q (bxL B L) then L else []
  | .node L l r => if q (bxL B L) then l.touch B q ++ r.touch B q else []
theorem touch_sub (B : Nat → Bx) (q : Bx → Bool) : ∀ t : Tr, (t.touch B q).Sublist t.its
  | .leaf _ L => by unfold Tr.touch; split; exact .refl _; exact List.nil_sublist _
  | .node L l r => by unfold Tr.touch; split; exact (touch_sub B q l).append (touch_sub B q r); exact List.nil_sublist _
/-! how a tree lies in its rows -/
def Laid (B : Nat → Bx) (N : List Nd) (I : List Nat) : Nat → Tr → Prop
  | a, .leaf f L => N[a]? = some ⟨bxL B L, f, L.length, 0, 0⟩ ∧ 0 < L.length ∧ (I.drop f).take L.length = L
  | a, .node L l r => N[a]? = some ⟨bxL B L, 0, 0, a + 1, a + 1 + l.sz⟩ ∧ Laid B N I (a + 1) l ∧ Laid B N I (a + 1 + l.sz) r
theorem laid_of (B : Nat → Bx) {leaf : Nat} : ∀ (t : Tr) (f : Nat) (N0 N1 : List Nd) (I0 I1 : List Nat), t.Ok leaf f → I0.length = f → Laid B (N0 ++ (t.lay B N0.length ++ N1)) (I0 ++ (t.its ++ I1)) N0.length t
  | .leaf f' L, f, N0, N1, I0, I1, h, hf => by
    obtain ⟨rfl, h1, h2⟩ := h
    refine ⟨by simp [Tr.lay], h1, ?_⟩
    rw [← hf, List.drop_left]
    exact List.take_left
  | .node L l r, f, N0, N1, I0, I1, h, hf => by
    refine ⟨by simp [Tr.lay], ?_, ?_⟩
    · have := laid_of B l f (N0 ++ [⟨bxL B L, 0, 0, N0.length + 1, N0.length + 1 + l.sz⟩]) (r.lay B (N0.length + 1 + l.sz) ++ N1) I0 (r.its ++ I1) h.2.1 hf
      simp only [Tr.lay, Tr.its, List.length_append, List.length_cons, List.length_nil, List.append_assoc, List.cons_append, List.nil_append, Nat.zero_add] at this ⊢
      exact this
    · have := laid_of B r (f + l.its.length) (N0 ++ [⟨bxL B L, 0, 0, N0.length + 1, N0.length + 1 + l.sz⟩] ++ l.lay B (N0.length + 1)) N1 (I0 ++ l.its) I1 h.2.2.1 (by rw [List.length_append, hf])
      simp only [Tr.lay, Tr.its, List.length_append, List.length_cons, List.length_nil, List.append_assoc, List.cons_append, List.nil_append, Nat.zero_add, lay_len, ← Nat.add_assoc, Nat.add_right_comm _ l.sz 1] at this ⊢
      exact this
/-- A tree's rows: laid whole. -/
theorem laid_whole (B : Nat → Bx) {leaf : Nat} {t : Tr} (h : t.Ok leaf 0) : Laid B (t.lay B 0) t.its 0 t := by
  have := laid_of B t 0 [] [] [] [] h rfl
  simpa using this
end Go.Proofs.Ythadlpkdfnonjaa
namespace Go.Proofs.Ythadlpkdfnonjaa
open Go.RowKit
set_option linter.unusedVariables false
set_option linter.unusedSimpArgs false
variable {P : Program}
/-! what a call leaves as it was, step by step -/
theorem bel_alloc {a w : World} (h : Below a.heap.size a w) (o : Obj) : Below a.heap.size a (w.alloc o) := h.alloc h.size o
theorem bel_trans {a w w' : World} (h : Below a.heap.size a w) (k : Below w.heap.size w w') : Below a.heap.size a w' := h.trans (k.mono h.size)
theorem bel_set {a w : World} (h : Below a.heap.size a w) {p : Addr} (hp : a.heap.size ≤ p.block) (u : Value) : Below a.heap.size a (w.setCell p u) := h.setCell hp u
theorem bel_drew {a w : World} (h : Below a.heap.size a w) : Below a.heap.size a w.drew := ⟨h.os, h.tape, h.output, h.size, h.block⟩
/-- A step to a world in which all that was there is as it was. -/
structure More where
  «to» : World → World
  kept : ∀ w, Below w.heap.size w («to» w)
instance more_some : Nonempty More := ⟨⟨fun w => w, fun w => Below.refl _ _⟩⟩
def grow (w : World) (x : More) : World := x.to w
theorem bel_grow {a w : World} (h : Below a.heap.size a w) (x : More) : Below a.heap.size a (grow w x) := bel_trans h (x.kept w)
open Classical in
noncomputable def More.of (w w' : World) (h : Below w.heap.size w w') : More := ⟨fun v => if v = w then w' else v, fun v => by
  by_cases e : v = w
  · rw [if_pos e, e]; exact h
  · rw [if_neg e]; exact Below.refl _ _⟩
theorem grow_mk (w w' : World) (h : Below w.heap.size w w') : grow w (More.of w w' h) = w' := by unfold grow More.of; simp
theorem grow_of {w w' : World} (h : Below w.heap.size w w') : ∃ x, w' = grow w x := ⟨More.of w w' h, (grow_mk w w' h).symm⟩
def More.then (x y : More) : More := ⟨fun w => y.to (x.to w), fun w => bel_trans (x.kept w) (y.kept _)⟩
theorem bel_then {a w : World} {x : More} (h : Below a.heap.size a (grow w x)) (y : More) : Below a.heap.size a (grow w (x.then y)) := bel_grow h y
theorem grow_grow (w : World) (x y : More) : grow (grow w x) y = grow w (x.then y) := rfl
/-- What is behind the blocks that w had: of that nothing is said. -/
def More.top (x : More) (w : World) : Nat := (x.to w).heap.size
def More.cellAt (x : More) (w : World) (n i : Nat) : Option Value := (x.to w).cell? ⟨n, i, none⟩
def More.frozenAt (x : More) (w : World) (n i : Nat) : Bool := (x.to w).frozen? ⟨n, i, none⟩
theorem grow_cell (w : World) (x : More) (n i : Nat) : (grow w x).cell? ⟨n, i, none⟩ = if n < w.heap.size then w.cell? ⟨n, i, none⟩ else x.cellAt w n i := by
  split
  · rename_i h; exact (x.kept w).cell (p := ⟨n, i, none⟩) h
  · rfl
theorem grow_frozen (w : World) (x : More) (n i : Nat) : (grow w x).frozen? ⟨n, i, none⟩ = if n < w.heap.size then w.frozen? ⟨n, i, none⟩ else x.frozenAt w n i := by
  split
  · rename_i h; exact (x.kept w).frozen (p := ⟨n, i, none⟩) h
  · rfl
theorem grow_size (w : World) (x : More) : (grow w x).heap.size = x.top w := rfl
theorem top_le (w : World) (x : More) : w.heap.size ≤ x.top w := (x.kept w).size
theorem grow_lt (w : World) (x : More) (n : Nat) : (n < (grow w x).heap.size) = (n < w.heap.size ∨ n < x.top w) := by
  have h : w.heap.size ≤ (x.to w).heap.size := (x.kept w).size
  have e : (grow w x).heap.size = (x.to w).heap.size := rfl
  have e2 : x.top w = (x.to w).heap.size := rfl
  rw [e, e2]
  exact propext ⟨fun h => .inr h, fun h => by omega⟩
theorem grow_lt1 (w : World) (x : More) (n : Nat) : (n < (grow w x).heap.size + 1) = (n < w.heap.size ∨ n < x.top w + 1) := by
  have h : w.heap.size ≤ (x.to w).heap.size := (x.kept w).size
  have e : (grow w x).heap.size = (x.to w).heap.size := rfl
  have e2 : x.top w = (x.to w).heap.size := rfl
  rw [e, e2]
  exact propext ⟨fun h => .inr h, fun h => by omega⟩
theorem grow_lt2 (w : World) (x : More) (n : Nat) : (n < (grow w x).heap.size + 1 + 1) = (n < w.heap.size ∨ n < x.top w + 1 + 1) := by
  have h : w.heap.size ≤ (x.to w).heap.size := (x.kept w).size
  have e : (grow w x).heap.size = (x.to w).heap.size := rfl
  have e2 : x.top w = (x.to w).heap.size := rfl
  rw [e, e2]
  exact propext ⟨fun h => .inr h, fun h => by omega⟩
theorem grow_lt3 (w : World) (x : More) (n : Nat) : (n < (grow w x).heap.size + 1 + 1 + 1) = (n < w.heap.size ∨ n < x.top w + 1 + 1 + 1) := by
  have h : w.heap.size ≤ (x.to w).heap.size := (x.kept w).size
  have e : (grow w x).heap.size = (x.to w).heap.size := rfl
  have e2 : x.top w = (x.to w).heap.size := rfl
  rw [e, e2]
  exact propext ⟨fun h => .inr h, fun h => by omega⟩
theorem grow_lt4 (w : World) (x : More) (n : Nat) : (n < (grow w x).heap.size + 1 + 1 + 1 + 1) = (n < w.heap.size ∨ n < x.top w + 1 + 1 + 1 + 1) := by
  have h : w.heap.size ≤ (x.to w).heap.size := (x.kept w).size
  have e : (grow w x).heap.size = (x.to w).heap.size := rfl
  have e2 : x.top w = (x.to w).heap.size := rfl
  rw [e, e2]
  exact propext ⟨fun h => .inr h, fun h => by omega⟩
theorem grow_lt5 (w : World) (x : More) (n : Nat) : (n < (grow w x).heap.size + 1 + 1 + 1 + 1 + 1) = (n < w.heap.size ∨ n < x.top w + 1 + 1 + 1 + 1 + 1) := by
  have h : w.heap.size ≤ (x.to w).heap.size := (x.kept w).size
  have e : (grow w x).heap.size = (x.to w).heap.size := rfl
  have e2 : x.top w = (x.to w).heap.size := rfl
  rw [e, e2]
  exact propext ⟨fun h => .inr h, fun h => by omega⟩
theorem grow_lt6 (w : World) (x : More) (n : Nat) : (n < (grow w x).heap.size + 1 + 1 + 1 + 1 + 1 + 1) = (n < w.heap.size ∨ n < x.top w + 1 + 1 + 1 + 1 + 1 + 1) := by
  have h : w.heap.size ≤ (x.to w).heap.size := (x.kept w).size
  have e : (grow w x).heap.size = (x.to w).heap.size := rfl
  have e2 : x.top w = (x.to w).heap.size := rfl
  rw [e, e2]
  exact propext ⟨fun h => .inr h, fun h => by omega⟩
theorem grow_lt7 (w : World) (x : More) (n : Nat) : (n < (grow w x).heap.size + 1 + 1 + 1 + 1 + 1 + 1 + 1) = (n < w.heap.size ∨ n < x.top w + 1 + 1 + 1 + 1 + 1 + 1 + 1) := by
  have h : w.heap.size ≤ (x.to w).heap.size := (x.kept w).size
  have e : (grow w x).heap.size = (x.to w).heap.size := rfl
  have e2 : x.top w = (x.to w).heap.size := rfl
  rw [e, e2]
  exact propext ⟨fun h => .inr h, fun h => by omega⟩
theorem grow_lt8 (w : World) (x : More) (n : Nat) : (n < (grow w x).heap.size + 1 + 1 + 1 + 1 + 1 + 1 + 1 + 1) = (n < w.heap.size ∨ n < x.top w + 1 + 1 + 1 + 1 + 1 + 1 + 1 + 1) := by
  have h : w.heap.size ≤ (x.to w).heap.size := (x.kept w).size
  have e : (grow w x).heap.size = (x.to w).heap.size := rfl
  have e2 : x.top w = (x.to w).heap.size := rfl
  rw [e, e2]
  exact propext ⟨fun h => .inr h, fun h => by omega⟩
theorem grow_le (w : World) (x : More) (n : Nat) : (n ≤ (grow w x).heap.size) = (n ≤ w.heap.size ∨ n ≤ x.top w) := by
  have h : w.heap.size ≤ (x.to w).heap.size := (x.kept w).size
  have e : (grow w x).heap.size = (x.to w).heap.size := rfl
  have e2 : x.top w = (x.to w).heap.size := rfl
  rw [e, e2]
  exact propext ⟨fun h => .inr h, fun h => by omega⟩
theorem grow_self1 (w : World) (x : More) : ((grow w x).heap.size < x.top w + 1) = True := eq_true (Nat.lt_succ_self _)
theorem grow_self2 (w : World) (x : More) : ((grow w x).heap.size < x.top w + 1 + 1) = True := eq_true (Nat.lt_succ_of_lt (Nat.lt_succ_self _))
theorem grow_self3 (w : World) (x : More) : ((grow w x).heap.size < x.top w + 1 + 1 + 1) = True := eq_true (Nat.lt_succ_of_lt (Nat.lt_succ_of_lt (Nat.lt_succ_self _)))
attribute [go_sem] grow_self1 grow_self2 grow_self3
attribute [go_sem] grow_grow grow_cell grow_frozen grow_lt grow_le grow_lt1 grow_lt2 grow_lt3 grow_lt4 grow_lt5 grow_lt6 grow_lt7 grow_lt8
/-! a store into a block that was there goes through what grew behind it -/
theorem below_setCell {w v : World} (h : Below w.heap.size w v) (n i : Nat) (u : Value) (hn : n < w.heap.size) : Below (w.setCell ⟨n, i, none⟩ u).heap.size (w.setCell ⟨n, i, none⟩ u) (v.setCell ⟨n, i, none⟩ u) := by
  refine ⟨h.os, h.tape, h.output, by simpa [World.setCell] using h.size, fun k hk => ?_⟩
  have hk' : k < w.heap.size := by simpa [World.setCell] using hk
  simp only [World.setCell, Array.getElem?_modify]
  rw [h.block k hk']
open Classical in
noncomputable def More.setC (x : More) (w : World) (n i : Nat) (u : Value) : More :=
  if h : n < w.heap.size then More.of (w.setCell ⟨n, i, none⟩ u) ((x.to w).setCell ⟨n, i, none⟩ u) (below_setCell (x.kept w) n i u h) else x
theorem grow_setCell (w : World) (x : More) (n i : Nat) (u : Value) (hn : n < w.heap.size) : (grow w x).setCell ⟨n, i, none⟩ u = grow (w.setCell ⟨n, i, none⟩ u) (x.setC w n i u) := by
  unfold More.setC; rw [dif_pos hn, grow_mk]; rfl
theorem below_setRow {w v : World} (h : Below w.heap.size w v) (n : Nat) (cs : Array Value) (hn : n < w.heap.size) : Below (w.setRow n cs).heap.size (w.setRow n cs) (v.setRow n cs) := by
  refine ⟨h.os, h.tape, h.output, by simpa using h.size, fun k hk => ?_⟩
  have hk' : k < w.heap.size := by simpa using hk
  simp only [World.setRow, Array.getElem?_modify]
  rw [h.block k hk']
open Classical in
noncomputable def More.setR (x : More) (w : World) (n : Nat) (cs : Array Value) : More :=
  if h : n < w.heap.size then More.of (w.setRow n cs) ((x.to w).setRow n cs) (below_setRow (x.kept w) n cs h) else x
theorem grow_setRow (w : World) (x : More) (n : Nat) (cs : Array Value) (hn : n < w.heap.size) : (grow w x).setRow n cs = grow (w.setRow n cs) (x.setR w n cs) := by
  unfold More.setR; rw [dif_pos hn, grow_mk]; rfl
attribute [go_sem] grow_setCell grow_setRow
/-- In every world the call answers v, and all that was there is as it was. -/
def Gives (P : Program) (f : FuncId) (args : Array Value) (v : Value) : Prop := ∀ w : World, Calls P f args w fun e w' => e = .returned v ∧ ∃ x, w' = grow w x
theorem Gives.at_ {f : FuncId} {args : Array Value} {v : Value} (h : Gives P f args v) (w : World) : Calls P f args w fun e w' => e = .returned v ∧ ∃ x, w' = grow w x := h w
theorem Gives.mk {f : FuncId} {args : Array Value} {v : Value} (h : ∀ w : World, Calls P f args w fun e w' => e = .returned v ∧ Below w.heap.size w w') : Gives P f args v :=
  fun w => (h w).mono fun _ _ ⟨he, hb⟩ => ⟨he, grow_of hb⟩
theorem Gives.bel {f : FuncId} {args : Array Value} {v : Value} (h : Gives P f args v) (w : World) : Calls P f args w fun e w' => e = .returned v ∧ Below w.heap.size w w' :=
  (h w).mono fun _ _ ⟨he, x, hx⟩ => ⟨he, hx ▸ x.kept w⟩
theorem Gives.quiet {f : FuncId} {args : Array Value} {v : Value} (h : Gives P f args v) {w : World} (x : More) :
    Calls P f args (grow w x) fun e w'' => e = .returned v ∧ ∃ y, w'' = grow w y :=
  (h (grow w x)).mono fun _ _ ⟨he, y, hy⟩ => ⟨he, x.then y, hy⟩
theorem Gives.quiet2 {f : FuncId} {args : Array Value} {v : Value} (h : Gives P f args v) {w : World} (x y : More) :
    Calls P f args (grow w (x.then y)) fun e w'' => e = .returned v ∧ ∃ z, w'' = grow w (x.then z) :=
  (h (grow w (x.then y))).mono fun _ _ ⟨he, z, hz⟩ => ⟨he, y.then z, hz⟩
/-- A region whose operations only read or are such calls: one walk in the order of the text. -/
theorem wp_region_grow {id : Nat} {Q : Exit → Act → World → Prop} {a : Act} {w : World} {l : List Oper} (hm : P.follows .mixedOrders = true) (hB : Region.lexB .any l.toArray = true)
    (h : wpQuiet P l.toArray (fun w' => ∃ x, w' = grow w x) (fun a' => ∀ w', (∃ x, w' = grow w x) → Q .normal a' w') l a) : (Code.region id l.toArray true).wp P Q a w :=
  wp_region_quiet (C := fun w' => ∃ x, w' = grow w x) hm hB (grow_of (bel_drew (Below.refl _ _))) (by simpa using h)
end Go.Proofs.Ythadlpkdfnonjaa
namespace Go.Proofs.Ythadlpkdfnonjaa
open Go.RowKit
set_option linter.unusedVariables false
set_option linter.unusedSimpArgs false
theorem setRow_alloc_past (w : World) (o : Obj) (n : Nat) (cs : Array Value) (hn : n < w.heap.size) : (w.alloc o).setRow n cs = (w.setRow n cs).alloc o := by
  unfold World.setRow World.alloc
  congr 1
  apply Array.ext_getElem?
  intro k
  simp only [Array.getElem?_modify, Array.getElem?_push, Array.size_modify]
  by_cases hk : k = w.heap.size
  · subst hk; simp [Nat.ne_of_lt hn]
  · by_cases hn' : n = k <;> simp [hk, hn']
theorem setRow_alloc_at (w : World) (c cs : Array Value) (t : TypeId) (n : Nat) (hn : n = w.heap.size) : (w.alloc (.cells c t)).setRow n cs = w.alloc (.cells cs t) := by
  subst hn; exact World.setRow_alloc_new w c cs t
attribute [go_sem] setRow_alloc_past setRow_alloc_at
/-! what a block holds -/
theorem bel_setRow {a w : World} (h : Below a.heap.size a w) {n : Nat} (hn : a.heap.size ≤ n) (cs : Array Value) : Below a.heap.size a (w.setRow n cs) :=
  h.trans ⟨rfl, rfl, rfl, by simp, fun k hk => setRow_other w n k cs (by omega)⟩
/-- One operation by an equation of its own. -/
theorem wpList_val {P : Program} {ops : Array Oper} {rest : List Oper} {o : Oper} {a : Act} {w : World} {Q : Exit → Act → World → Prop} (hg : o.guard = none) (v : Value) (w' : World)
    (hrun : (execOp a.eval o).run P w = .ok (.value v) w') (h : wpList P ops Q rest (a.put o.dst v) w') : wpList P ops Q (o :: rest) a w :=
  wpList_plain hg fun _ hK => by
    unfold Oper.wp
    rw [hrun]
    exact hK _ _ h
end Go.Proofs.Ythadlpkdfnonjaa
namespace Go.Proofs.Ythadlpkdfnonjaa
open Go.RowKit
set_option linter.unusedVariables false
set_option linter.unusedSimpArgs false
/-- The upper half (signed) and the lower half (unsigned) of a number of 128 bits. -/
def hiOf (n : Int) : Int := n / 18446744073709551616
def loOf (n : Int) : Int := n % 18446744073709551616
def InW (n : Int) : Prop := -170141183460469231731687303715884105728 ≤ n ∧ n ≤ 170141183460469231731687303715884105727
theorem hi_lo (n : Int) : hiOf n * 18446744073709551616 + loOf n = n := by unfold hiOf loOf; omega
theorem lo_bd (n : Int) : 0 ≤ loOf n ∧ loOf n ≤ 18446744073709551615 := by unfold loOf; omega
theorem hi_bd {n : Int} (h : InW n) : -9223372036854775808 ≤ hiOf n ∧ hiOf n ≤ 9223372036854775807 := by unfold hiOf; unfold InW at h; omega
/-! and on int64 with a mask of all ones or none -/
theorem i64_and_m1 (b : Int) (h0 : -9223372036854775808 ≤ b) (h1 : b ≤ 9223372036854775807) : bits .and .i64 (-1) b = b := by
  have h : BitVec.ofInt 64 (-1) = BitVec.allOnes 64 := by decide
  have hb : (BitVec.ofInt 64 b).toNat = (b % 18446744073709551616).toNat := by rw [BitVec.toNat_ofInt]; rfl
  show IntKind.i64.wrap ((BitVec.ofInt 64 (-1) &&& BitVec.ofInt 64 b).toNat : Int) = b
  rw [h, BitVec.allOnes_and, hb, IntKind.wrap_i64]
  omega
theorem i64_and_0 (b : Int) : bits .and .i64 0 b = 0 := by
  have h : BitVec.ofInt 64 0 = 0#64 := by decide
  show IntKind.i64.wrap ((BitVec.ofInt 64 0 &&& BitVec.ofInt 64 b).toNat : Int) = 0
  rw [h, BitVec.zero_and, IntKind.wrap_i64]
  decide
theorem prod_bd (a b : Int) (h0 : -9223372036854775808 ≤ a) (h1 : a ≤ 9223372036854775807) (h2 : -9223372036854775808 ≤ b) (h3 : b ≤ 9223372036854775807) :
    -85070591730234615865843651857942052864 ≤ a * b ∧ a * b ≤ 85070591730234615865843651857942052864 := by
  have h : (a * b).natAbs ≤ 9223372036854775808 * 9223372036854775808 := by
    rw [Int.natAbs_mul]; exact Nat.mul_le_mul (by omega) (by omega)
  omega
theorem inW_mul (a b : Int) (h0 : -9223372036854775808 ≤ a) (h1 : a ≤ 9223372036854775807) (h2 : -9223372036854775808 ≤ b) (h3 : b ≤ 9223372036854775807) : InW (a * b) := by
  have := prod_bd a b h0 h1 h2 h3; unfold InW; omega
/-- What is left when a factor below 0 is read without a sign. -/
def lostOf (a b : Int) : Int := if a < 0 then b else 0
theorem lo_neg (a : Int) (h0 : -9223372036854775808 ≤ a) (h1 : a < 0) : loOf a = a + 18446744073709551616 := by unfold loOf; omega
theorem lo_pos (a : Int) (h0 : 0 ≤ a) (h1 : a ≤ 9223372036854775807) : loOf a = a := by unfold loOf; omega
theorem and_lost (a b : Int) (h0 : -9223372036854775808 ≤ a) (h1 : a ≤ 9223372036854775807) (h2 : -9223372036854775808 ≤ b) (h3 : b ≤ 9223372036854775807) :
    bits .and .i64 (a / 9223372036854775808) b = lostOf a b := by
  unfold lostOf
  by_cases h : a < 0
  · rw [show a / 9223372036854775808 = -1 from by omega, i64_and_m1 b h2 h3, if_pos h]
  · rw [show a / 9223372036854775808 = 0 from by omega, i64_and_0 b, if_neg h]
theorem mul_lo (a b : Int) : loOf (loOf a * loOf b) = loOf (a * b) := by
  unfold loOf; rw [← Int.mul_emod]
theorem mul_hi (a b : Int) (h0 : -9223372036854775808 ≤ a) (h1 : a ≤ 9223372036854775807) (h2 : -9223372036854775808 ≤ b) (h3 : b ≤ 9223372036854775807) :
    wrap64 (IntKind.u64.wrap (hiOf (loOf a * loOf b) - IntKind.u64.wrap (IntKind.u64.wrap (lostOf a b) + IntKind.u64.wrap (lostOf b a)))) = hiOf (a * b) := by
  have hb := prod_bd a b h0 h1 h2 h3
  simp only [IntKind.wrap_u64]
  unfold lostOf wrap64
  by_cases ha : a < 0 <;> by_cases hc : b < 0
  · rw [lo_neg a h0 ha, lo_neg b h2 hc, if_pos ha, if_pos hc]
    have e : (a + 18446744073709551616) * (b + 18446744073709551616) = a * b + 18446744073709551616 * a + 18446744073709551616 * b + 340282366920938463463374607431768211456 := by
      simp only [Int.add_mul, Int.mul_add]; omega
    rw [e]; generalize a * b = p at *; unfold hiOf; omega
  · rw [lo_neg a h0 ha, lo_pos b (by omega) h3, if_pos ha, if_neg hc]
    have e : (a + 18446744073709551616) * b = a * b + 18446744073709551616 * b := by
      simp only [Int.add_mul]
    rw [e]; generalize a * b = p at *; unfold hiOf; omega
  · rw [lo_pos a (by omega) h1, lo_neg b h2 hc, if_neg ha, if_pos hc]
    have e : a * (b + 18446744073709551616) = a * b + 18446744073709551616 * a := by
      simp only [Int.mul_add]; omega
    rw [e]; generalize a * b = p at *; unfold hiOf; omega
  · rw [lo_pos a (by omega) h1, lo_pos b (by omega) h3, if_neg ha, if_neg hc]
    generalize a * b = p at *; unfold hiOf; omega
/-! signs of bits -/
/-! the sum's upper half as it is reckoned -/
/-! the other sign's upper half as it is reckoned -/
end Go.Proofs.Ythadlpkdfnonjaa
