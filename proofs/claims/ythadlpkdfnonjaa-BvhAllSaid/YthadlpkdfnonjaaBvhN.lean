/- Build and Touched, told alike for no boxes and for some; a map of int to bool whose entries are all true. -/
import Derived.Maps.OwnOps
import Derived.Maps.OwnSet
import Derived.Test.YthadlpkdfnonjaaC10
import Derived.Test.YthadlpkdfnonjaaC14
namespace Go.Proofs.Ythadlpkdfnonjaa
open Go.RowKit
set_option linter.unusedVariables false
set_option linter.unusedSimpArgs false
set_option maxRecDepth 100000
structure TrS where
  a : Option Addr
  s : Nat
  c : Nat
  b : Option Addr
  n : Nat
  k : Nat
def TrS.v (t : TrS) : Value := .agg #[.slice t.a t.s t.c, .slice t.b t.n t.k]
def TrR (W : World) (t : TrS) (B : Nat → Bx) (leaf n : Nat) : Prop := (n = 0 ∧ t = ⟨none, 0, 0, none, 0, 0⟩) ∨ (0 < n ∧ t.s = (bvT B leaf n).sz ∧ t.n = n ∧ NdL W t.a ((bvT B leaf n).lay B 0) ∧ IL W t.b (zL (bvT B leaf n).its) ∧ n ≤ t.k)
theorem TrR.below {W W' : World} {t : TrS} {B : Nat → Bx} {leaf n : Nat} (h : TrR W t B leaf n) (hb : Below W.heap.size W W') : TrR W' t B leaf n := by
  rcases h with h | ⟨h1, h2, h3, h4, h5, h6⟩
  · exact .inl h
  · exact .inr ⟨h1, h2, h3, h4.below hb, h5.below hb, h6⟩
theorem buildU (W : World) (A : Option Addr) (n c : Nat) (B : Nat → Bx) (hB : BxR W A n B) (hn : n ≤ 300) (leaf : Int) (hleaf : -9223372036854775808 ≤ leaf ∧ leaf ≤ 9223372036854775807) (hok : allOk B n = true) (h1 : 1 ≤ leaf) :
    Calls Try.prog 19 #[.slice A n c, .int .i64 leaf] W fun e W' => Below W.heap.size W W' ∧ ∃ t, e = .returned (.tuple #[.agg #[.slice t.a t.s t.c, .slice t.b t.n t.k], .int .i64 0]) ∧ TrR W' t B leaf.toNat n := by
  have he := bldE_iff.2 ⟨h1, hok⟩
  refine (build_any W A n c B hB hn leaf hleaf).mono fun e W' ⟨hb, h⟩ => ⟨hb, ?_⟩
  by_cases h0 : n = 0
  · subst h0
    exact ⟨⟨none, 0, 0, none, 0, 0⟩, bld_zero h he, .inl ⟨rfl, rfl⟩⟩
  · obtain ⟨A1, c1, A2, c2, e1, e2, e3, e4⟩ := bld_tree h he (by omega)
    exact ⟨⟨A1, _, c1, A2, n, c2⟩, e1, .inr ⟨by omega, rfl, rfl, e2, e3, e4⟩⟩
/-- A map whose entries are true, under the numbers of P. -/
def SeM (W : World) (B : Nat) (P : List Int) : Prop := ∃ D : DataW Unit, W.ownsMap Try.prog 3 (plainElem Try.prog 4) B P.length D ∧ ∀ v, i64B v → D.atKey (.int .i64 v) (.lit (.bool false)) = .lit (.bool (decide (v ∈ P)))
theorem SeM.made (W : World) : SeM (W.alloc (.map #[] 0)) W.heap.size [] := ⟨.map [], World.ownsMap_made _ _ _ _, fun v _ => by simp [DataW.atKey]⟩
theorem SeM.kept {W W' : World} {B : Nat} {P : List Int} {row : Option Nat} (h : SeM W B P) (hg : W.grownBy W' row) (hne : some B ≠ row) : SeM W' B P := by
  obtain ⟨D, h1, h2⟩ := h; exact ⟨D, h1.kept hg hne, h2⟩
theorem SeM.lt {W : World} {B : Nat} {P : List Int} (h : SeM W B P) : B < W.heap.size := by
  obtain ⟨D, h1, h2⟩ := h; exact h1.lt
theorem zeroTB (w : World) : (zeroValue 4).run Try.prog w = .ok (.bool false) w := by kernel_rfl
theorem SeM.look {W : World} {B : Nat} {P : List Int} {v : Int} (h : SeM W B P) (hv : i64B v) : (Instr.lookup 74 (.map (some B)) (.int .i64 v) false).run Try.prog W = .ok (.bool (decide (v ∈ P))) W := by
  obtain ⟨D, ho, hd⟩ := h
  obtain ⟨x, ps, hrun, hx⟩ := ho.lookup lawI Try.underlying74 (zeroTB W) (plainElem_bool Try.underlying4 false) (Maps.keyOf_int_mk Try.underlying3 hv.wf)
  rw [hd v hv] at hx
  unfold plainElem at hx
  rw [Try.underlying4] at hx
  cases x <;> simp at hx
  rw [hrun, hx.1]
section
variable {ops : Array Oper} {rest : List Oper} {o : Oper} {a : Act} {Q : Exit → Act → World → Prop}
end
end Go.Proofs.Ythadlpkdfnonjaa
