/- Find: the place of an edge in a sorted row. -/
import Derived.Test.YtbehobojgeganaaTopL
import Derived.Test.YtbehobojgeganaaTopN
namespace Go.Proofs.Ytbehobojgeganaa
open Go.RowKit
set_option linter.unusedVariables false
set_option linter.unusedSimpArgs false
set_option linter.unnecessarySimpa false
set_option maxRecDepth 100000
open Go.Sort


theorem against_g (a b f g p q : Int) (W : World) : Calls Try.prog 48 #[.agg #[.int .i64 a, .int .i64 b, .int .i64 f, .int .i64 g], .agg #[.int .i64 p, .int .i64 q]] W fun e W' => e = .returned (.int .i64 (cf2 a b p q)) ∧ Below W.heap.size W W' :=
  (against_any W a b f g p q).mono fun _ _ ⟨he, x, hx⟩ => ⟨he, hx ▸ (x.kept W).bel⟩
def atE (es : List Ed) (i : Nat) (p q : Int) : Int := match es[i]? with | some e => cf2 e.a e.b p q | none => 1
theorem cf2_neg (a b p q : Int) : cf2 a b p q < 0 ↔ a < p ∨ (a = p ∧ b < q) := by
  have := cfE_lt (a, b) (p, q)
  unfold ltOf cfE at this
  simpa using this
theorem cf2_zero (a b p q : Int) : cf2 a b p q = 0 ↔ a = p ∧ b = q := by
  unfold cf2 orI Lib.compareInt
  repeat' split
  all_goals omega
theorem cf2_mono {es : List Ed} (hs : es.Pairwise ltE) {k h : Nat} {p q : Int} (hk : k < h) (hh : h < es.length) (hneg : cf2 es[h].a es[h].b p q < 0) : cf2 (es[k]'(by omega)).a (es[k]'(by omega)).b p q < 0 := by
  have := List.pairwise_iff_getElem.1 hs k h (by omega) hh hk
  rw [cf2_neg] at *
  unfold ltE at this
  omega
set_option maxHeartbeats 4000000 in
theorem bsearch_any (W : World) (A : Option Addr) (c : Nat) (es : List Ed) (p q : Int) (hE : EL W A es) (hn : es.length < 1099511627776) (hs : es.Pairwise ltE) :
    Calls Try.prog 47 #[.slice A es.length c, .agg #[.int .i64 p, .int .i64 q], .func (.func 48) #[] #[]] W fun e W' => ∃ i : Nat, i ≤ es.length ∧ (∀ k (h : k < es.length), k < i → cf2 es[k].a es[k].b p q < 0) ∧ (∀ k (h : k < es.length), i ≤ k → 0 ≤ cf2 es[k].a es[k].b p q) ∧ e = .returned (.tuple #[.int .i64 (i : Int), .bool (decide (i < es.length ∧ atE es i p q = 0))]) ∧ Below W.heap.size W W' := by
  have hb0 : Below W.heap.size W (W.alloc (.cells #[.int .i64 p, .int .i64 q] 88)) := bel_alloc (Below.refl _ _) _
  have hbx : Blk (W.alloc (.cells #[.int .i64 p, .int .i64 q] 88)) W.heap.size 88 #[.int .i64 p, .int .i64 q] := Blk.new _ _ _ _ rfl
  go_enter Try.func47, Try.ntmps47
  go_wp2
  go_loopw [9, 10] (fun iv jv wr => ∃ i j : Nat, iv = .int .i64 (i : Int) ∧ jv = .int .i64 (j : Int) ∧ i ≤ j ∧ j ≤ es.length ∧ (∀ k (h : k < es.length), k < i → cf2 es[k].a es[k].b p q < 0) ∧ (∀ k (h : k < es.length), j ≤ k → 0 ≤ cf2 es[k].a es[k].b p q) ∧ Below (W.alloc (.cells #[.int .i64 p, .int .i64 q] 88)).heap.size (W.alloc (.cells #[.int .i64 p, .int .i64 q] 88)) wr) (fun iv jv _ => (intOf jv).toNat - (intOf iv).toNat)
  case atStart => exact ⟨0, es.length, rfl, rfl, by omega, by omega, fun k _ h => by omega, fun k h h2 => by omega, Below.refl _ _⟩
  case round =>
    obtain ⟨i, j, rfl, rfl, hij, hj, hlo, hhi, hb⟩ := hrel
    have hbr := bel_trans hb0 hb
    have hbxr := hbx.below hb
    have x0 : wr.cell? ⟨W.heap.size, 0, none⟩ = some (.int .i64 p) := hbxr.cell 0
    have x1 : wr.cell? ⟨W.heap.size, 1, none⟩ = some (.int .i64 q) := hbxr.cell 1
    have xl := hbxr.lt
    replace hlo := Lib.hid hlo
    replace hhi := Lib.hid hhi
    by_cases hlt : i < j
    · have d1 : (i : Int) < (j : Int) := by omega
      go_upto_region 5 with (fail)
      have hh : ((i : Int) + (j : Int)) / 2 = (((i + j) / 2 : Nat) : Int) := by omega
      have h1 : i ≤ (i + j) / 2 := by omega
      have h2 : (i + j) / 2 < j := by omega
      simp only [hh]
      clear hh
      generalize (i + j) / 2 = h at *
      have hhl : h < es.length := by omega
      obtain ⟨b, off, rfl, hbl, hc⟩ := (hE.below hbr) (by omega)
      obtain ⟨g0, g1, g2, g3⟩ := hc h hhl
      clear hc
      have k0 : (0 : Int) ≤ (h : Int) := by omega
      have k1 : (h : Int) < (es.length : Int) := by omega
      have cA := against_g es[h].a es[h].b es[h].f es[h].g p q
      have hlo2 : cf2 es[h].a es[h].b p q < 0 → ∀ k (h9 : k < es.length), k < h + 1 → cf2 es[k].a es[k].b p q < 0 := fun hneg k hk hk2 => by
        by_cases e : k = h
        · subst e; exact hneg
        · exact cf2_mono hs (by omega) hhl hneg
      have hhi2 : 0 ≤ cf2 es[h].a es[h].b p q → ∀ k (h9 : k < es.length), h ≤ k → 0 ≤ cf2 es[k].a es[k].b p q := fun hpos k hk hk2 => by
        apply Classical.byContradiction
        intro hn2
        by_cases e : k = h
        · subst e; exact hn2 hpos
        · have := cf2_mono hs (show h < k by omega) hk (show cf2 es[k].a es[k].b p q < 0 by omega)
          omega
      replace hlo2 := Lib.hid hlo2
      replace hhi2 := Lib.hid hhi2
      generalize cf2 es[h].a es[h].b p q = cc at *
      generalize es[h].a = ea at *
      generalize es[h].b = eb at *
      generalize es[h].f = ef at *
      generalize es[h].g = eg at *
      refine wp_region_tail 6 ?_ (by kernel_rfl) (by kernel_rfl) (by kernel_rfl) (fun x => ?_) (fun x => ?_)
      rotate_left
      · simp only [List.take_succ_cons, List.take_zero]
        repeat (go_big_quiet_step ((fail)))
        refine wpQuiet_nil ?_
        exact rfl
      simp only [List.drop_succ_cons, List.drop_zero]
      try simp only [Act.put, List.setIfInBounds_toArray, List.set_cons_succ, List.set_cons_zero]
      have hbx2 := bel_grow hb x
      generalize grow wr x = W5 at *
      have cA5 := cA W5
      clear cA
      by_cases dc : cc < 0
      · go_wp2_with (first | (go_at_call 48; (with_reducible refine cA5.mono ?_); rintro e W6 ⟨rfl, hb6⟩) | fail)
        go_roundw
        case rel => exact ⟨h + 1, j, by go_num, rfl, by omega, hj, hlo2.out dc, hhi.out, bel_trans hbx2 hb6⟩
        case measure => simp [intOf]; omega
      · go_wp2_with (first | (go_at_call 48; (with_reducible refine cA5.mono ?_); rintro e W6 ⟨rfl, hb6⟩) | fail)
        go_roundw
        case rel => exact ⟨i, h, rfl, rfl, h1, by omega, hlo.out, hhi2.out (by omega), bel_trans hbx2 hb6⟩
        case measure => simp [intOf]; omega
    · obtain rfl : i = j := by omega
      by_cases hil : i < es.length
      · obtain ⟨b, off, rfl, hbl, hc⟩ := (hE.below hbr) (by omega)
        obtain ⟨g0, g1, g2, g3⟩ := hc i hil
        clear hc
        have k0 : (0 : Int) ≤ (i : Int) := by omega
        have k1 : (i : Int) < (es.length : Int) := by omega
        have cA := against_g es[i].a es[i].b es[i].f es[i].g p q
        have hat : atE es i p q = cf2 es[i].a es[i].b p q := by simp [atE, hil]
        replace hat := Lib.hid hat
        generalize cf2 es[i].a es[i].b p q = cc at *
        generalize es[i].a = ea at *
        generalize es[i].b = eb at *
        generalize es[i].f = ef at *
        generalize es[i].g = eg at *
        have cG : Gives Try.prog 48 #[.agg #[.int .i64 ea, .int .i64 eb, .int .i64 ef, .int .i64 eg], .agg #[.int .i64 p, .int .i64 q]] (.int .i64 cc) := Gives.mk cA
        go_upto_region 8 with (fail)
        refine wp_region_grow (by kernel_rfl) (by kernel_rfl) ?_
        repeat (go_big_quiet_step ((first | with_reducible exact cG.quiet _ | with_reducible exact cG.quiet2 _ _)))
        refine wpQuiet_nil ?_
        rintro _ ⟨x, rfl⟩
        have hbx2 := bel_grow hbr x
        generalize grow wr x = W5 at *
        go_wp2
        go_ret2
        refine ⟨i, hj, hlo.out, hhi.out, ?_, hbx2⟩
        rw [hat.out]
        by_cases e0 : cc = 0
        · simp [e0, hil]
        · simp [e0]
      · have d1 : ¬ (i : Int) < (es.length : Int) := by omega
        go_upto_region 8 with (fail)
        refine wp_region_grow (by kernel_rfl) (by kernel_rfl) ?_
        repeat (go_big_quiet_step ((fail)))
        refine wpQuiet_nil ?_
        rintro _ ⟨x, rfl⟩
        have hbx2 := bel_grow hbr x
        generalize grow wr x = W5 at *
        go_wp2
        go_ret2
        exact ⟨i, hj, hlo.out, hhi.out, by simp [hil], hbx2⟩
end Go.Proofs.Ytbehobojgeganaa