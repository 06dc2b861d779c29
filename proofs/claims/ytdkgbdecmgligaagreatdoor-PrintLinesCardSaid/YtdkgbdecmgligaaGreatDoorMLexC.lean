/- Rows of texts, and whether two are the same. -/
import Derived.Test.YtdkgbdecmgligaaGreatDoorMLexA
namespace Go.Proofs.YtdkgbdecmgligaaGreatDoor
open Go.RowKit
set_option linter.unusedVariables false
set_option linter.unusedSimpArgs false
/-- A row of n texts lies from an address on. -/
def SF (W : World) (A : Option Addr) (n : Nat) (p : Nat → ByteArray) : Prop :=
  0 < n → ∃ b off, A = some ⟨b, off, none⟩ ∧ b < W.heap.size ∧ ∀ i, i < n → W.cell? ⟨b, off + i, none⟩ = some (.string (p i))
theorem SF.below {W W' : World} {A : Option Addr} {n : Nat} {p : Nat → ByteArray} (h : SF W A n p) (hb : Below W.heap.size W W') : SF W' A n p := fun hn => by
  obtain ⟨b, off, e, hl, hc⟩ := h hn
  exact ⟨b, off, e, Nat.lt_of_lt_of_le hl hb.size, fun i hi => (hb.cell (p := ⟨b, _, none⟩) hl).trans (hc i hi)⟩
def eqT (p q : Nat → ByteArray) : Nat → Bool
  | 0 => true
  | k + 1 => eqT p q k && ((p k).toList == (q k).toList)
theorem eqT_no (p q : Nat → ByteArray) (k : Nat) (h : ((p k).toList == (q k).toList) = false) : ∀ n, k < n → eqT p q n = false
  | 0, hn => by omega
  | n + 1, hn => by
    unfold eqT
    by_cases e : k = n
    · subst e; rw [h]; simp
    · rw [eqT_no p q k h n (by omega)]; rfl
def sameT (n m : Nat) (p q : Nat → ByteArray) : Bool := decide (n = m) && eqT p q n
end Go.Proofs.YtdkgbdecmgligaaGreatDoor

/- Rows of lines, and whether two are the same. -/
namespace Go.Proofs.YtdkgbdecmgligaaGreatDoor
open Go.RowKit
set_option linter.unusedVariables false
set_option linter.unusedSimpArgs false
theorem qq1 {P : Program} {f : FuncId} {args : Array Value} {v : Value} {w : World} {y : More} (h : Calls P f args (grow w y) fun e w'' => e = .returned v ∧ ∃ z, w'' = grow (grow w y) z) : Calls P f args (grow w y) fun e w'' => e = .returned v ∧ ∃ z, w'' = grow w z :=
  h.mono fun _ _ ⟨he, z, hz⟩ => ⟨he, y.then z, hz⟩
theorem qq2 {P : Program} {f : FuncId} {args : Array Value} {v : Value} {w : World} {x y : More} (h : Calls P f args (grow w (x.then y)) fun e w'' => e = .returned v ∧ ∃ z, w'' = grow (grow w (x.then y)) z) : Calls P f args (grow w (x.then y)) fun e w'' => e = .returned v ∧ ∃ z, w'' = grow w (x.then z) :=
  h.mono fun _ _ ⟨he, z, hz⟩ => ⟨he, y.then z, hz⟩
/-- A row's words: where they lie, how many, how much room, which. -/
structure Ws where
  at_ : Option Addr
  len : Nat
  cap : Nat
  text : Nat → ByteArray
/-- A row of n lines lies from an address on. -/
def LF (W : World) (A : Option Addr) (n : Nat) (no : Nat → Int) (ws : Nat → Ws) : Prop :=
  0 < n → ∃ b off, A = some ⟨b, off, none⟩ ∧ b < W.heap.size ∧ ∀ i, i < n → W.cell? ⟨b, off + i * 2, none⟩ = some (.int .i64 (no i)) ∧ W.cell? ⟨b, off + i * 2 + 1, none⟩ = some (.slice (ws i).at_ (ws i).len (ws i).cap) ∧ SF W (ws i).at_ (ws i).len (ws i).text ∧ (ws i).len ≤ 1048576
def lnE (no no2 : Nat → Int) (ws ws2 : Nat → Ws) (k : Nat) : Bool := (no k == no2 k) && sameT (ws k).len (ws2 k).len (ws k).text (ws2 k).text
def eqL (no no2 : Nat → Int) (ws ws2 : Nat → Ws) : Nat → Bool
  | 0 => true
  | k + 1 => eqL no no2 ws ws2 k && lnE no no2 ws ws2 k
theorem eqL_no (no no2 : Nat → Int) (ws ws2 : Nat → Ws) (k : Nat) (h : lnE no no2 ws ws2 k = false) : ∀ n, k < n → eqL no no2 ws ws2 n = false
  | 0, hn => by omega
  | n + 1, hn => by
    unfold eqL
    by_cases e : k = n
    · subst e; rw [h]; simp
    · rw [eqL_no no no2 ws ws2 k h n (by omega)]; rfl
def sameL (n m : Nat) (no no2 : Nat → Int) (ws ws2 : Nat → Ws) : Bool := decide (n = m) && eqL no no2 ws ws2 n
theorem LF.below {W W' : World} {A : Option Addr} {n : Nat} {no : Nat → Int} {ws : Nat → Ws} (h : LF W A n no ws) (hb : Below W.heap.size W W') : LF W' A n no ws := fun hn => by
  obtain ⟨b, off, e, hl, hc⟩ := h hn
  refine ⟨b, off, e, Nat.lt_of_lt_of_le hl hb.size, fun i hi => ?_⟩
  obtain ⟨h1, h2, h3, h4⟩ := hc i hi
  exact ⟨(hb.cell (p := ⟨b, _, none⟩) hl).trans h1, (hb.cell (p := ⟨b, _, none⟩) hl).trans h2, h3.below hb, h4⟩
end Go.Proofs.YtdkgbdecmgligaaGreatDoor
