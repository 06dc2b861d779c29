/- The law of the spline: a cage that is built, point by point, face by face. -/
import Derived.Test.YtpdnaceggpdleabPatGr
import Derived.Test.YtpdnaceggpdleabMonoN
import Derived.Test.YtpdnaceggpdleabC15
import Derived.Test.YtpdnaceggpdleabC17
import Derived.Test.YtpdnaceggpdleabC19
namespace Go.Proofs.Ytpdnaceggpdleab
open Go.RowKit
set_option linter.unusedVariables false
set_option linter.unusedSimpArgs false
set_option linter.unnecessarySimpa false
theorem rScale_any (ax : Int) (ay : Int) (az : Int) (k : Int) :
    Gives Try.prog 9 #[.agg #[.int .i64 ax, .int .i64 ay, .int .i64 az], .int .i64 k] (.agg #[.int .i64 (wrap64 (ax * k)), .int .i64 (wrap64 (ay * k)), .int .i64 (wrap64 (az * k))]) := by
  refine Gives.mk fun w => ?_
  go_enter Try.func9, Try.ntmps9
  go_wp2
  refine bodyPost_ret (v := .agg #[.int .i64 (wrap64 (ax * k)), .int .i64 (wrap64 (ay * k)), .int .i64 (wrap64 (az * k))]) (by simp [results, Try.results9, go_sem]) rfl ⟨rfl, (by repeat (first | exact Below.refl _ _ | refine bel_grow ?_ _ | refine bel_alloc ?_ _ | refine bel_set ?_ (by simp) _))⟩

/-- The first n points of a list. -/
def ptL (q : Nat → Int × Int × Int) (n : Nat) : List P3 := (List.range n).map fun k => (⟨(q k).1, (q k).2.1, (q k).2.2⟩ : P3)
theorem ptL_len (q : Nat → Int × Int × Int) (n : Nat) : (ptL q n).length = n := by simp [ptL]
theorem ptL_succ (q : Nat → Int × Int × Int) (n : Nat) : ptL q (n + 1) = ptL q n ++ [⟨(q n).1, (q n).2.1, (q n).2.2⟩] := by simp [ptL, List.range_succ]
/-- A cage of one's own so far. -/
structure KS (W : World) (T : Nat) (vs : List P3) (fs : List (List Int)) (A1 : Option Addr) (c1 : Nat) (A2 : Option Addr) (c2 : Nat) (wr : World) : Prop where
  bel : Below W.heap.size W wr
  c : Blk wr T 27 #[.slice A1 vs.length c1, .slice A2 fs.length c2, .slice none 0 0]
  r : wr.ownsRow (T + 1) 30 3 (.slice A1 vs.length c1) vs.length (kC vs)
  g : OwnF wr (T + 1) A2 c2 fs
  lt : W.heap.size ≤ T
section
variable {W : World} {T : Nat} {vs : List P3} {fs : List (List Int)} {A1 : Option Addr} {c1 : Nat} {A2 : Option Addr} {c2 : Nat} {wr wq : World}
theorem KS.lay (h : KS W T vs fs A1 c1 A2 c2 wr) (hb : Below wr.heap.size wr wq) : KS W T vs fs A1 c1 A2 c2 wq :=
  ⟨bel_trans h.bel hb, h.c.below hb, own_lay h.r hb, h.g.lay hb, h.lt⟩
theorem KS.start {W1 : World} (hb : Below W.heap.size W W1) : KS W W1.heap.size [] [] none 0 none 0 (W1.alloc (.cells #[.slice none 0 0, .slice none 0 0, .slice none 0 0] 27)) :=
  ⟨bel_alloc hb _, Blk.new _ _ _ _ rfl, ⟨rfl, .inl ⟨rfl, rfl⟩⟩, ⟨[], ⟨rfl, .inl ⟨rfl, rfl⟩⟩, fun i h => by simp at h⟩, hb.size⟩
/-- A point more. -/
theorem KS.addV {w5 w6 : World} {p : P3} {A6 : Option Addr} {c6 : Nat} (h : KS W T vs fs A1 c1 A2 c2 w5) (hg : w5.grownBy w6 (Value.slice A1 vs.length c1).ownBlock) (ho : w6.ownsRow (T + 1) 30 3 (.slice A6 (vs.length + 1) c6) (vs.length + 1) (kC vs ++ kC [p])) :
    KS W T (vs ++ [p]) fs A6 c6 A2 c2 (w6.setCell ⟨T, 0, none⟩ (.slice A6 (vs.length + 1) c6)) := by
  have hblk := fun k hk => (own_block h.r k hk).1
  have hs := set_grown w6 T 0 (.slice A6 (vs.length + 1) c6)
  have hkc : kC (vs ++ [p]) = kC vs ++ kC [p] := by
    clear h hg ho hblk hs
    induction vs with
    | nil => rfl
    | cons a r ih => simp only [List.cons_append, kC, ih]
  have hc := (h.c.kept hg (fun e => by have := hblk _ e.symm; omega)).set 0 (.slice A6 (vs.length + 1) c6)
  refine ⟨bel_set (bel_own h.bel hg (fun k hk => by have := hblk k hk; have := h.lt; omega)) (p := ⟨T, 0, none⟩) h.lt _, ?_, ?_, ?_, h.lt⟩
  · rw [List.length_append]; exact hc
  · rw [hkc, List.length_append]; exact own_kept ho hs (fun k hk e => by have := (own_block ho k hk).1; simp only [Option.some.injEq] at e; omega)
  · refine (h.g.kept hg (fun k e => .inr ⟨_, _, _, _, _, _, h.r, e, neVI, neVL⟩)).kept hs (fun k e => .inl (by simp only [Option.some.injEq] at e; omega))
/-- A face more. -/
theorem KS.addF {w5 w6 : World} {x : List Int} {A6 : Option Addr} {c6 : Nat} {row : Option Nat} (h : KS W T vs fs A1 c1 A2 c2 w5) (hg : w5.grownBy w6 row) (hr : ∀ k, row = some k → T + 1 ≤ k ∧ (Value.slice A1 vs.length c1).ownBlock ≠ some k) (ho : OwnF w6 (T + 1) A6 c6 (fs ++ [x])) :
    KS W T vs (fs ++ [x]) A1 c1 A6 c6 (w6.setCell ⟨T, 1, none⟩ (.slice A6 (fs.length + 1) c6)) := by
  have hs := set_grown w6 T 1 (.slice A6 (fs.length + 1) c6)
  have hc := (h.c.kept hg (fun e => by have := (hr _ e.symm).1; omega)).set 1 (.slice A6 (fs.length + 1) c6)
  refine ⟨bel_set (bel_own h.bel hg (fun k hk => by have := (hr k hk).1; have := h.lt; omega)) (p := ⟨T, 1, none⟩) h.lt _, ?_, ?_, ?_, h.lt⟩
  · rw [List.length_append]; exact hc
  · exact own_kept (own_kept h.r hg (fun k hk e => (hr k e).2 hk)) hs (fun k hk e => by have := (own_block h.r k hk).1; simp only [Option.some.injEq] at e; omega)
  · exact ho.kept hs (fun k e => .inl (by simp only [Option.some.injEq] at e; omega))
end
theorem gr9_next {y x : Nat} (hy : y < 3) (hx : x < 3) : gr9.take (3 * y + x + 1) = gr9.take (3 * y + x) ++ [[4 * (y : Int) + (x : Int), 4 * (y : Int) + (x : Int) + 1, 4 * (y : Int) + (x : Int) + 5, 4 * (y : Int) + (x : Int) + 4]] := by
  rcases (by omega : y = 0 ∨ y = 1 ∨ y = 2) with rfl | rfl | rfl <;> (rcases (by omega : x = 0 ∨ x = 1 ∨ x = 2) with rfl | rfl | rfl <;> rfl)
theorem gr9_len {k : Nat} (h : k ≤ 9) : (gr9.take k).length = k := by
  rw [List.length_take]
  show min k 9 = k
  omega
/-- The first k squares, shut. -/
@[irreducible] def gr9T (k : Nat) : List (List Int) := gr9.take k
theorem gr9T_eq (k : Nat) : gr9T k = gr9.take k := by unfold gr9T; rfl
theorem gr9T_zero : gr9T 0 = [] := by rw [gr9T_eq]; rfl
theorem gr9T_all : gr9T 9 = gr9 := by rw [gr9T_eq]; rfl
theorem gr9T_next {y x : Nat} (hy : y < 3) (hx : x < 3) : gr9T (3 * y + x + 1) = gr9T (3 * y + x) ++ [[4 * (y : Int) + (x : Int), 4 * (y : Int) + (x : Int) + 1, 4 * (y : Int) + (x : Int) + 5, 4 * (y : Int) + (x : Int) + 4]] := by
  rw [gr9T_eq, gr9T_eq]; exact gr9_next hy hx
theorem gr9T_len {k : Nat} (h : k ≤ 9) : (gr9T k).length = k := by rw [gr9T_eq]; exact gr9_len h
theorem lt_9 {y x : Nat} (hy : y < 3) (hx : x < 3) : 3 * y + x < 9 := by omega
theorem ml_9 {k : Nat} (h : k < 9) : k + 1 ≤ maxLen := by unfold maxLen; omega
theorem mb_9 {k : Nat} (h : k < 9) : (k + 1) * 24 ≤ 140737488355328 := by omega
theorem close_any (x n : Int) (h1 : x * 36 - n ≤ 72) (h2 : n - x * 36 ≤ 72) (b1 : -600000 ≤ n) (b2 : n ≤ 600000) : Gives Try.prog 10 #[.int .i64 x, .int .i64 n, .int .i64 36] (.bool true) := by
  refine Gives.mk fun w => ?_
  go_enter Try.func10, Try.ntmps10
  go_wp2
  go_ret
  exact ⟨rfl, Below.refl _ _⟩
theorem splL_next (vs : List P3) {j i y x : Nat} (hx : x < 4) : splL vs j i (4 * y + x + 1) = splL vs j i (4 * y + x) ++ [(vat vs ((4 * y + x : Nat) : Int), rowW j y * rowW i x)] := by
  unfold splL
  rw [List.range_succ, List.map_append, List.map_singleton, show (4 * y + x) / 4 = y by omega, show (4 * y + x) % 4 = x by omega]
theorem rowW_rng (j y : Nat) : 0 ≤ rowW j y ∧ rowW j y ≤ 4 := by
  unfold rowW
  rcases (by omega : j = 0 ∨ j = 1 ∨ j = 2 ∨ j = 3 ∨ 4 ≤ j) with rfl | rfl | rfl | rfl | h
  iterate 4
    rcases (by omega : y = 0 ∨ y = 1 ∨ y = 2 ∨ y = 3 ∨ 4 ≤ y) with rfl | rfl | rfl | rfl | h
    · decide
    · decide
    · decide
    · decide
    · rw [List.getD_eq_getElem?_getD (l := List.getD _ _ _), List.getElem?_eq_none (by simpa using h)]; decide
  rw [List.getD_eq_getElem?_getD (l := ([[1, 4, 1, 0], [0, 4, 2, 0], [0, 2, 4, 0], [0, 1, 4, 1]] : List (List Int))), List.getElem?_eq_none (by simpa using h)]
  simp
theorem rowW_mul (j y i x : Nat) : wrap64 (rowW j y * rowW i x) = rowW j y * rowW i x := by
  have h1 := rowW_rng j y
  have h2 := rowW_rng i x
  have := mulb (a := rowW j y) (w := rowW i x) (m := 4) (k := 4) (by omega) h1.2 h2.1 h2.2 (by omega)
  unfold wrap64; omega
end Go.Proofs.Ytpdnaceggpdleab
