/- Sides of faces, as the document goes over them. No program is imported. -/
import Derived.Test.YtbehobojgeganaaTopP
namespace Go.Proofs.Ytbehobojgeganaa
set_option linter.unusedVariables false
set_option linter.unusedSimpArgs false
/-- A side: from, to, its face. -/
structure Sd where
  a : Int
  b : Int
  f : Int
def sF (f : Int) (x : List Int) : List Sd := (List.range x.length).map fun i => ⟨x.getD i 0, x.getD ((i + 1) % x.length) 0, f⟩
def sL : Nat → List (List Int) → List Sd
  | _, [] => []
  | k, x :: r => sF k x ++ sL (k + 1) r
def isS (a b : Int) (s : Sd) : Bool := s.a == a && s.b == b
def outS (l : List Sd) : Int := match l with
  | [] => -1
  | [s] => s.f
  | _ => -2
/-- Which face goes from a to b, by the document. -/
def alongV (fs : List (List Int)) (a b : Int) : Int := outS ((sL 0 fs).filter (isS a b))
theorem sF_len (f : Int) (x : List Int) : (sF f x).length = x.length := by simp [sF]
theorem sF_take (f : Int) (x : List Int) (i : Nat) (h : i < x.length) : (sF f x).take (i + 1) = (sF f x).take i ++ [⟨x.getD i 0, x.getD ((i + 1) % x.length) 0, f⟩] := by
  rw [List.take_succ_eq_append_getElem (by rw [sF_len]; exact h)]
  simp [sF]
theorem sL_append : ∀ (l m : List (List Int)) (k : Nat), sL k (l ++ m) = sL k l ++ sL (k + l.length) m
  | [], m, k => by simp [sL]
  | x :: r, m, k => by
    simp only [List.cons_append, sL, sL_append r m (k + 1), List.append_assoc, List.length_cons]
    congr 3; omega
theorem sL_take (fs : List (List Int)) (f : Nat) (h : f < fs.length) : sL 0 (fs.take (f + 1)) = sL 0 (fs.take f) ++ sF (f : Int) fs[f] := by
  rw [List.take_succ_eq_append_getElem h, sL_append]
  simp [sL, Nat.min_eq_left (Nat.le_of_lt h)]
theorem sL_split (fs : List (List Int)) (f : Nat) (h : f < fs.length) : sL 0 fs = sL 0 (fs.take f) ++ sF (f : Int) fs[f] ++ sL (f + 1) (fs.drop (f + 1)) := by
  conv => lhs; rw [← List.take_append_drop (f + 1) fs]
  rw [sL_append, sL_take fs f h]
  have : (fs.take (f + 1)).length = f + 1 := by simp; omega
  rw [this, Nat.zero_add]
theorem out_two {l : List Sd} (h : 2 ≤ l.length) : outS l = -2 := by
  match l, h with
  | _ :: _ :: _, _ => rfl
theorem filter_pre {α : Type} (p : α → Bool) (P R : List α) (x : α) (hx : p x = true) : ((P ++ [x] ++ R).filter p).length = (P.filter p).length + 1 + (R.filter p).length := by
  simp [List.filter_append, hx]; omega
end Go.Proofs.Ytbehobojgeganaa
