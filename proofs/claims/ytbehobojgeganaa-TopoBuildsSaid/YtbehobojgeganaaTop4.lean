/- Package topo: against, and the closure that edges are sorted by. -/
import Derived.Test.YtbehobojgeganaaTop1
import Derived.Test.YtbehobojgeganaaRegionD
import Derived.Test.YtbehobojgeganaaShelf
namespace Go.Proofs.Ytbehobojgeganaa
open Go.RowKit
set_option linter.unusedVariables false
set_option linter.unusedSimpArgs false
set_option linter.unnecessarySimpa false
set_option maxRecDepth 100000


def orI (x y : Int) : Int := if x ≠ 0 then x else y
set_option maxHeartbeats 1000000 in
theorem or_any (W : World) (g off c : Nat) (x y : Int) (h0 : W.cell? ⟨g, off, none⟩ = some (.int .i64 x)) (h1 : W.cell? ⟨g, off + 1, none⟩ = some (.int .i64 y)) (hg : g < W.heap.size) :
    Calls Try.prog 64 #[.slice (some ⟨g, off, none⟩) 2 c] W fun e W' => e = .returned (.int .i64 (orI x y)) ∧ W' = W := by
  go_enter Try.func64, Try.ntmps64
  go_wp2
  go_loopw [8] (fun i wr => wr = W ∧ (i = .int .i64 0 ∨ (i = .int .i64 1 ∧ x = 0) ∨ (i = .int .i64 2 ∧ x = 0 ∧ y = 0))) (fun i _ => 3 - (intOf i).toNat)
  case atStart => exact ⟨rfl, .inl rfl⟩
  case round =>
    obtain ⟨rfl, rfl | ⟨rfl, hx⟩ | ⟨rfl, hx, hy⟩⟩ := hrel
    · by_cases e : x = 0
      · subst e
        go_wp2
        go_roundw
        case rel => exact ⟨trivial, .inr (.inl ⟨rfl, trivial⟩)⟩
        case measure => simp [intOf]
      · have e2 : (x == 0) = false := by simpa using e
        go_wp2
        go_ret
        exact ⟨by simp [orI, e], rfl⟩
    · by_cases e : y = 0
      · subst e
        go_wp2
        go_roundw
        case rel => exact ⟨trivial, .inr (.inr ⟨rfl, hx, trivial⟩)⟩
        case measure => simp [intOf]
      · have e2 : (y == 0) = false := by simpa using e
        go_wp2
        go_ret
        exact ⟨by simp [orI, hx], rfl⟩
    · go_wp2
      go_ret
      exact ⟨by simp [orI, hx, hy], rfl⟩
/-- How an edge stands to a way. -/
def cf2 (a b p q : Int) : Int := orI (Lib.compareInt a p) (Lib.compareInt b q)


theorem cmp_g (x y : Int) : D.Gives Try.prog 65 #[.int .i64 x, .int .i64 y] (.int .i64 (Lib.compareInt x y)) := D.Gives.mk fun w => (Try.cmp_Compare_int x y w).mono fun _ _ ⟨he, hw⟩ => ⟨he, hw ▸ D.BelD.refl _ _⟩
set_option maxHeartbeats 1000000 in
theorem against_any (W : World) (a b f g p q : Int) :
    Calls Try.prog 48 #[.agg #[.int .i64 a, .int .i64 b, .int .i64 f, .int .i64 g], .agg #[.int .i64 p, .int .i64 q]] W fun e W' => e = .returned (.int .i64 (cf2 a b p q)) ∧ ∃ x, W' = D.grow W x := by
  have c1 := cmp_g a p
  have c2 := cmp_g b q
  go_enter Try.func48, Try.ntmps48
  go_wp2_with fail
  refine D.wp_region_tail 10 ?_ (by kernel_rfl) (by kernel_rfl) (by kernel_rfl) (fun x => ?_) (fun x => ?_)
  rotate_left
  · simp only [List.take_succ_cons, List.take_zero]
    repeat (go_big_quiet_step ((first | with_reducible exact c1.quiet _ | with_reducible exact c1.quiet2 _ _ | with_reducible exact c2.quiet _ | with_reducible exact c2.quiet2 _ _)))
    refine wpQuiet_nil ?_
    exact rfl
  simp only [List.drop_succ_cons, List.drop_zero]
  try simp only [Act.put, List.setIfInBounds_toArray, List.set_cons_succ, List.set_cons_zero]
  have hbel : D.BelD W.heap.size W (D.grow ((W.alloc (.cells #[.int .i64 a, .int .i64 b, .int .i64 f, .int .i64 g] 38)).alloc (.cells #[.int .i64 p, .int .i64 q] 88)) x) := D.bel_grow (D.bel_alloc (D.bel_alloc (D.BelD.refl _ _) _) _) x
  generalize D.grow ((W.alloc (.cells #[.int .i64 a, .int .i64 b, .int .i64 f, .int .i64 g] 38)).alloc (.cells #[.int .i64 p, .int .i64 q] 88)) x = W1 at *
  have hbk : Blk (W1.alloc (.cells #[.int .i64 (Lib.compareInt a p), .int .i64 (Lib.compareInt b q)] 3)) W1.heap.size 3 #[.int .i64 (Lib.compareInt a p), .int .i64 (Lib.compareInt b q)] := Blk.new _ _ _ _ rfl
  have hor := or_any _ W1.heap.size 0 2 _ _ (hbk.cell 0) (hbk.cell 1) hbk.lt
  clear hbk c1 c2
  go_wp2_with (first | (go_at_call 64; (refine hor.mono ?_); rintro e W2 ⟨rfl, rfl⟩) | fail)
  go_ret
  exact ⟨rfl, D.grow_of (D.bel_alloc hbel _)⟩
set_option maxHeartbeats 1000000 in
theorem sorter_any (W : World) (a b f g a2 b2 f2 g2 : Int) :
    Calls Try.prog 62 #[.agg #[.int .i64 a, .int .i64 b, .int .i64 f, .int .i64 g], .agg #[.int .i64 a2, .int .i64 b2, .int .i64 f2, .int .i64 g2]] W fun e W' => e = .returned (.int .i64 (cf2 a b a2 b2)) ∧ ∃ x, W' = D.grow W x := by
  have hA := fun W => against_any W a b f g a2 b2
  go_enter Try.func62, Try.ntmps62
  go_wp2_with (first | (go_at_call 48; (refine (hA _).mono ?_); rintro e W2 ⟨rfl, x, rfl⟩) | fail)
  go_ret
  exact ⟨rfl, D.grow_of (D.bel_grow (D.bel_alloc (D.bel_alloc (D.BelD.refl _ _) _) _) x)⟩
end Go.Proofs.Ytbehobojgeganaa