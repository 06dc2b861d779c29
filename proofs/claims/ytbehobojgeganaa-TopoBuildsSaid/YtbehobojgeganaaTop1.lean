/- Package topo: face, fan; rows of numbers and of faces that are read. -/
import Derived.Test.YtbehobojgeganaaMapG
import Derived.Test.YtbehobojgeganaaRegion
import Derived.Test.YtbehobojgeganaaBlk
namespace Go.Proofs.Ytbehobojgeganaa
open Go.RowKit
set_option linter.unusedVariables false
set_option linter.unusedSimpArgs false
set_option linter.unnecessarySimpa false
set_option maxRecDepth 100000

/-- A row of numbers that lies somewhere. -/
def IL (W : World) (A : Option Addr) (ns : List Int) : Prop := 0 < ns.length → ∃ b off, A = some ⟨b, off, none⟩ ∧ b < W.heap.size ∧ ∀ i (h : i < ns.length), W.cell? ⟨b, off + i, none⟩ = some (.int .i64 ns[i])
theorem IL.below {W W' : World} {A : Option Addr} {ns : List Int} (h : IL W A ns) (hb : Below W.heap.size W W') : IL W' A ns := fun hn => by
  obtain ⟨b, off, e, hl, hc⟩ := h hn
  exact ⟨b, off, e, Nat.lt_of_lt_of_le hl hb.size, fun i hi => (hb.cell (p := ⟨b, _, none⟩) hl).trans (hc i hi)⟩
/-- A row of rows of numbers. -/
def FL (W : World) (A : Option Addr) (fs : List (List Int)) : Prop := 0 < fs.length → ∃ b off, A = some ⟨b, off, none⟩ ∧ b < W.heap.size ∧ ∀ i (h : i < fs.length), ∃ B m, W.cell? ⟨b, off + i, none⟩ = some (.slice B fs[i].length m) ∧ IL W B fs[i]
theorem FL.below {W W' : World} {A : Option Addr} {fs : List (List Int)} (h : FL W A fs) (hb : Below W.heap.size W W') : FL W' A fs := fun hn => by
  obtain ⟨b, off, e, hl, hc⟩ := h hn
  refine ⟨b, off, e, Nat.lt_of_lt_of_le hl hb.size, fun i hi => ?_⟩
  obtain ⟨B, m, h1, h2⟩ := hc i hi
  exact ⟨B, m, (hb.cell (p := ⟨b, _, none⟩) hl).trans h1, h2.below hb⟩
theorem FL.at_ {W : World} {A : Option Addr} {fs : List (List Int)} (h : FL W A fs) (i : Nat) (hi : i < fs.length) : ∃ b off B m, A = some ⟨b, off, none⟩ ∧ b < W.heap.size ∧ W.cell? ⟨b, off + i, none⟩ = some (.slice B fs[i].length m) ∧ IL W B fs[i] := by
  obtain ⟨b, off, e, hl, hc⟩ := h (by omega)
  obtain ⟨B, m, h1, h2⟩ := hc i hi
  exact ⟨b, off, B, m, e, hl, h1, h2⟩
theorem IL.at_ {W : World} {A : Option Addr} {ns : List Int} (h : IL W A ns) (i : Nat) (hi : i < ns.length) : ∃ b off, A = some ⟨b, off, none⟩ ∧ b < W.heap.size ∧ W.cell? ⟨b, off + i, none⟩ = some (.int .i64 ns[i]) := by
  obtain ⟨b, off, e, hl, hc⟩ := h (by omega)
  exact ⟨b, off, e, hl, hc i hi⟩
theorem GoM.below {W W' : World} {B : Nat} {P : List Way} (h : GoM W B P) (hb : Below W.heap.size W W') : GoM W' B P := by
  have hlt := h.lt
  obtain ⟨D, ⟨es, cl, h1, h2⟩, h3⟩ := h
  exact ⟨D, ⟨es, cl, (hb.block B hlt).trans h1, h2⟩, h3⟩
theorem LaM.below {W W' : World} {B : Nat} {P : List Way} (h : LaM W B P) (hb : Below W.heap.size W W') : LaM W' B P := by
  have hlt := h.lt
  obtain ⟨D, ⟨es, cl, h1, h2⟩, h3⟩ := h
  exact ⟨D, ⟨es, cl, (hb.block B hlt).trans h1, h2⟩, h3⟩
/-- A store into one block: all below it stands. -/
theorem bel_turn {a W W' : World} {B : Nat} (h : Below a.heap.size a W) (hg : W.grownBy W' (some B)) (hB : a.heap.size ≤ B) : Below a.heap.size a W' := by
  refine h.trans ⟨hg.os, hg.tape, hg.output, hg.size, fun k hk => hg.block k (Nat.lt_of_lt_of_le hk h.size) (by intro e; cases e; omega)⟩


theorem face_any (W : World) (B : Nat) (P : List Way) (h : GoM W B P) (a b : Int) (ha : i64B a) (hb : i64B b) :
    Calls Try.prog 60 #[.map (some B), .int .i64 a, .int .i64 b] W fun e W' => e = .returned (.int .i64 (faceOf P a b)) ∧ Below W.heap.size W W' := by
  cases hl : look P a b with
  | none =>
    go_enter Try.func60, Try.ntmps60
    go_wp2_with (first | (at_lookup; (refine wpL_look_go _ rfl _ _ rfl B P rfl h a b rfl ha hb ?_)) | fail)
    go_ret
    exact ⟨by simp [faceOf, hl, gF], by repeat (first | with_reducible exact Below.refl _ _ | with_reducible assumption | with_reducible refine bel_then ?_ _ | with_reducible refine bel_grow ?_ _ | with_reducible refine bel_alloc ?_ _ | with_reducible refine bel_drew ?_ | with_reducible refine bel_drewN ?_ _ | with_reducible refine bel_set ?_ (by simp) _ | with_reducible refine bel_setRow ?_ (by first | simp | (simp only [grow_size]; omega)) _)⟩
  | some x =>
    go_enter Try.func60, Try.ntmps60
    go_wp2_with (first | (at_lookup; (refine wpL_look_go _ rfl _ _ rfl B P rfl h a b rfl ha hb ?_)) | fail)
    go_ret
    exact ⟨by simp [faceOf, hl, gF], by repeat (first | with_reducible exact Below.refl _ _ | with_reducible assumption | with_reducible refine bel_then ?_ _ | with_reducible refine bel_grow ?_ _ | with_reducible refine bel_alloc ?_ _ | with_reducible refine bel_drew ?_ | with_reducible refine bel_drewN ?_ _ | with_reducible refine bel_set ?_ (by simp) _ | with_reducible refine bel_setRow ?_ (by first | simp | (simp only [grow_size]; omega)) _)⟩
end Go.Proofs.Ytbehobojgeganaa