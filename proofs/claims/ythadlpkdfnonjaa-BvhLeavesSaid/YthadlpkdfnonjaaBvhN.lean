/- Build and Touched, told alike for no boxes and for some; a map of int to bool whose entries are all true. -/
import Derived.Maps.OwnOps
import Derived.Maps.OwnSet
import Derived.Test.YthadlpkdfnonjaaC10
import Derived.Test.YthadlpkdfnonjaaC14
namespace Go.Proofs.Ythadlpkdfnonjaa
open Go.RowKit
set_option linter.unusedVariables false
set_option linter.unusedSimpArgs false
set_option maxRecDepth 100000
def touU (B : Nat → Bx) (leaf n : Nat) (o d : P3) : List Nat := if n = 0 ∨ lnB o d = false then [] else (bvT B leaf n).touch B (rayQ o d)
def touE (n : Nat) (o d : P3) : Int := if n = 0 then 0 else if lnB o d then 0 else 21
structure TrS where
  a : Option Addr
  s : Nat
  c : Nat
  b : Option Addr
  n : Nat
  k : Nat
def TrS.v (t : TrS) : Value := .agg #[.slice t.a t.s t.c, .slice t.b t.n t.k]
def TrR (W : World) (t : TrS) (B : Nat → Bx) (leaf n : Nat) : Prop := (n = 0 ∧ t = ⟨none, 0, 0, none, 0, 0⟩) ∨ (0 < n ∧ t.s = (bvT B leaf n).sz ∧ t.n = n ∧ NdL W t.a ((bvT B leaf n).lay B 0) ∧ IL W t.b (zL (bvT B leaf n).its) ∧ n ≤ t.k)
theorem TrR.below {W W' : World} {t : TrS} {B : Nat → Bx} {leaf n : Nat} (h : TrR W t B leaf n) (hb : Below W.heap.size W W') : TrR W' t B leaf n := by
  rcases h with h | ⟨h1, h2, h3, h4, h5, h6⟩
  · exact .inl h
  · exact .inr ⟨h1, h2, h3, h4.below hb, h5.below hb, h6⟩
theorem buildU (W : World) (A : Option Addr) (n c : Nat) (B : Nat → Bx) (hB : BxR W A n B) (hn : n ≤ 300) (leaf : Int) (hleaf : -9223372036854775808 ≤ leaf ∧ leaf ≤ 9223372036854775807) (hok : allOk B n = true) (h1 : 1 ≤ leaf) :
    Calls Try.prog 19 #[.slice A n c, .int .i64 leaf] W fun e W' => Below W.heap.size W W' ∧ ∃ t, e = .returned (.tuple #[.agg #[.slice t.a t.s t.c, .slice t.b t.n t.k], .int .i64 0]) ∧ TrR W' t B leaf.toNat n := by
  have he := bldE_iff.2 ⟨h1, hok⟩
  refine (build_any W A n c B hB hn leaf hleaf).mono fun e W' ⟨hb, h⟩ => ⟨hb, ?_⟩
  by_cases h0 : n = 0
  · subst h0
    exact ⟨⟨none, 0, 0, none, 0, 0⟩, bld_zero h he, .inl ⟨rfl, rfl⟩⟩
  · obtain ⟨A1, c1, A2, c2, e1, e2, e3, e4⟩ := bld_tree h he (by omega)
    exact ⟨⟨A1, _, c1, A2, n, c2⟩, e1, .inr ⟨by omega, rfl, rfl, e2, e3, e4⟩⟩
theorem touchU (W : World) (t : TrS) (B : Nat → Bx) {leaf n : Nat} (hl : 0 < leaf) (hn : n ≤ 300) (hok : allOk B n = true) (hT : TrR W t B leaf n) (o d : P3) :
    Calls Try.prog 22 #[.agg #[.slice t.a t.s t.c, .slice t.b t.n t.k], .agg #[.int .i64 o.x, .int .i64 o.y, .int .i64 o.z], .agg #[.int .i64 d.x, .int .i64 d.y, .int .i64 d.z]] W fun e W' => Below W.heap.size W W' ∧ ∃ A c, e = .returned (.tuple #[.slice A (touU B leaf n o d).length c, .int .i64 (touE n o d)]) ∧ IL W' A (zL (touU B leaf n o d)) := by
  rcases hT with ⟨rfl, rfl⟩ | ⟨h1, h2, h3, h4, h5, h6⟩
  · have e1 : touU B leaf 0 o d = [] := by unfold touU; rw [if_pos (.inl rfl)]
    rw [e1]
    refine (touched_none W none 0 none 0 0 o d).mono fun e W' ⟨h, hb⟩ => ⟨hb, none, 0, h, fun h => absurd h (by simp [zL])⟩
  · rw [h2, h3]
    have hz : n ≠ 0 := by omega
    refine (touchB_any W t.a t.c t.b t.k B hl h1 hn hok h4 h5 h6 o d).mono fun e W' ⟨hb, h⟩ => ⟨hb, ?_⟩
    rcases h with ⟨q1, q2⟩ | ⟨q1, A, c, q2, q3⟩
    · have e1 : touU B leaf n o d = [] := by unfold touU; rw [if_pos (.inr q1)]
      have e2 : touE n o d = 21 := by unfold touE; rw [if_neg hz, q1]; rfl
      rw [e1, e2]
      exact ⟨none, 0, q2, fun h => absurd h (by simp [zL])⟩
    · have e1 : touU B leaf n o d = (bvT B leaf n).touch B (rayQ o d) := by unfold touU; rw [if_neg (by rw [q1]; simp [hz])]
      have e2 : touE n o d = 0 := by unfold touE; rw [if_neg hz, q1]; rfl
      rw [e1, e2]
      exact ⟨A, c, q2, q3⟩
theorem touU_lt {B : Nat → Bx} {leaf n : Nat} (hl : 0 < leaf) (hn : n ≤ 300) (o d : P3) : (touU B leaf n o d).length ≤ n ∧ ∀ x, x ∈ touU B leaf n o d → x < n := by
  unfold touU
  split
  · exact ⟨by simp, fun x h => absurd h (by simp)⟩
  · rename_i h
    obtain ⟨h1, h2, h3⟩ := touch_n (B := B) hl (Nat.pos_of_ne_zero fun e => h (.inl e)) hn o d
    have h4 := h1.length_le_of_subset (l₂ := List.range n) (fun x hx => by simpa using h2 x hx)
    rw [List.length_range] at h4
    exact ⟨h4, h2⟩
theorem touU_sub {B : Nat → Bx} {leaf n : Nat} (hl : 0 < leaf) (hn : n ≤ 300) (o d : P3) : ∀ x, x ∈ touU B 1 n o d → x ∈ touU B leaf n o d := by
  intro x hx
  unfold touU at *
  split at hx
  · cases hx
  · rename_i h
    rw [if_neg h]
    have h0 : 0 < n := Nat.pos_of_ne_zero fun e => h (.inl e)
    obtain ⟨h1, h2, _⟩ := bvT_ok B (leaf := 1) (by omega) h0 hn
    rw [show (bvT B 1 n).touch B (rayQ o d) = _ from touch_one (q := rayQ o d) (inR_mon o d) h1] at hx
    obtain ⟨hx1, hx2⟩ := List.mem_filter.1 hx
    exact (touch_n (B := B) hl h0 hn o d).2.2 x (by simpa using h2.mem_iff.1 hx1) hx2
theorem grow_leaf1 (B : Nat → Bx) (leaf k f : Nat) (L : List Nat) (h : L.length ≤ leaf) : growT B leaf (k + 1) f L = .leaf f L := by
  rw [growT, if_pos h]
theorem touU_all {B : Nat → Bx} {n : Nat} (hn : n ≤ 1000) (o d : P3) : (touU B 1000 n o d).length = 0 ∨ (touU B 1000 n o d).length = n := by
  unfold touU
  split
  · exact .inl rfl
  · have e : bvT B 1000 n = .leaf 0 (List.range n) := by
      exact grow_leaf1 B 1000 59 0 (List.range n) (by rw [List.length_range]; exact hn)
    rw [e]
    unfold Tr.touch
    split
    · exact .inr List.length_range
    · exact .inl rfl
/-- A map whose entries are true, under the numbers of P. -/
def SeM (W : World) (B : Nat) (P : List Int) : Prop := ∃ D : DataW Unit, W.ownsMap Try.prog 3 (plainElem Try.prog 4) B P.length D ∧ ∀ v, i64B v → D.atKey (.int .i64 v) (.lit (.bool false)) = .lit (.bool (decide (v ∈ P)))
theorem SeM.made (W : World) : SeM (W.alloc (.map #[] 0)) W.heap.size [] := ⟨.map [], World.ownsMap_made _ _ _ _, fun v _ => by simp [DataW.atKey]⟩
theorem SeM.kept {W W' : World} {B : Nat} {P : List Int} {row : Option Nat} (h : SeM W B P) (hg : W.grownBy W' row) (hne : some B ≠ row) : SeM W' B P := by
  obtain ⟨D, h1, h2⟩ := h; exact ⟨D, h1.kept hg hne, h2⟩
theorem SeM.lt {W : World} {B : Nat} {P : List Int} (h : SeM W B P) : B < W.heap.size := by
  obtain ⟨D, h1, h2⟩ := h; exact h1.lt
theorem zeroTB (w : World) : (zeroValue 4).run Try.prog w = .ok (.bool false) w := by kernel_rfl
theorem SeM.look {W : World} {B : Nat} {P : List Int} {v : Int} (h : SeM W B P) (hv : i64B v) : (Instr.lookup 74 (.map (some B)) (.int .i64 v) false).run Try.prog W = .ok (.bool (decide (v ∈ P))) W := by
  obtain ⟨D, ho, hd⟩ := h
  obtain ⟨x, ps, hrun, hx⟩ := ho.lookup lawI Try.underlying74 (zeroTB W) (plainElem_bool Try.underlying4 false) (Maps.keyOf_int_mk Try.underlying3 hv.wf)
  rw [hd v hv] at hx
  unfold plainElem at hx
  rw [Try.underlying4] at hx
  cases x <;> simp at hx
  rw [hrun, hx.1]
section
variable {ops : Array Oper} {rest : List Oper} {o : Oper} {a : Act} {Q : Exit → Act → World → Prop}
theorem wpL_put_se (W : World) (hg : o.guard = none) (m x v : Operand) (hop : o.op = Op.mapUpdate 74 m x v) (B : Nat) (P : List Int) (hm : a.eval m = .map (some B)) (h : SeM W B P) (w : Int) (hx : a.eval x = .int .i64 w) (hv : a.eval v = .bool true)
    (hp : i64B w) (hlen : P.length < 9223372036854775807)
    (hK : ∀ W', SeM W' B (P ++ [w]) → W.grownBy W' (some B) → wpList Try.prog ops Q rest (a.put o.dst undef) W') : wpList Try.prog ops Q (o :: rest) a W := by
  obtain ⟨D, ho, hd⟩ := h
  have hk := Maps.keyOf_int_mk (P := Try.prog) Try.underlying3 hp.wf
  refine wpList_mapUpdate_own W hg m x v _ hop 3 4 lawI Try.underlying74 (plainElem Try.prog 4) B P.length D hm ho (by unfold maxLen; omega) _ _ (.int .i64 w) hx hv hk _ [] (plainElem_bool Try.underlying4 true) ?_
  intro W' h1 h2
  refine hK W' ⟨_, by simpa using h1, fun c hc => ?_⟩ h2
  by_cases e : c = w
  · subst e
    rw [Maps.atKey_put_same ho.isMap (lawI.key hk)]
    simp
  · rw [Maps.atKey_put_other (fun e2 => e (by simpa using e2)), hd c hc]
    simp [e]
end
end Go.Proofs.Ythadlpkdfnonjaa
