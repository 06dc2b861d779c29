/- The document's Same of two surfaces that are one; SameFaces of the same. -/
import Derived.Test.YtbehobojgeganaaTopZ
namespace Go.Proofs.Ytbehobojgeganaa
open Go.RowKit
set_option linter.unusedVariables false
set_option linter.unusedSimpArgs false
set_option linter.unnecessarySimpa false
set_option maxRecDepth 100000

set_option maxHeartbeats 2000000 in
theorem sameF_yes (W : World) (A B : Option Addr) (c d : Nat) (fs : List (List Int)) (hA : FL W A fs) (hB : FL W B fs) (hf : fs.length < 1099511627776) (hx : ∀ x ∈ fs, x.length < 1099511627776) :
    Calls Try.prog 20 #[.slice A fs.length c, .slice B fs.length d] W fun e W' => e = .returned (.bool true) ∧ Below W.heap.size W W' := by
  go_enter Try.func20, Try.ntmps20
  go_wp2
  go_loopw [5] (fun i wr => ∃ k : Nat, i = .int .i64 (k : Int) ∧ k ≤ fs.length ∧ Below W.heap.size W wr) (fun i _ => fs.length - (intOf i).toNat)
  case atStart => exact ⟨0, rfl, by omega, Below.refl _ _⟩
  case round =>
    obtain ⟨k, rfl, hk, hbr⟩ := hrel
    by_cases hlt : k < fs.length
    · obtain ⟨b1, off1, C1a, m1, rfl, hbl1, h1, hI1⟩ := (hA.below hbr).at_ k hlt
      obtain ⟨b2, off2, C2a, m2, rfl, hbl2, h2, hI2⟩ := (hB.below hbr).at_ k hlt
      have hxl := hx _ (List.getElem_mem hlt)
      have k0 : (0 : Int) ≤ (k : Int) := by omega
      have k1 : (k : Int) < (fs.length : Int) := by omega
      generalize fs[k] = x at *
      have cQ := fun (y : More) => sameI_yes (grow wr y) C1a C2a m1 m2 x (hI1.below (bel_grow (Below.refl _ _) y)) (hI2.below (bel_grow (Below.refl _ _) y)) (by omega)
      clear hA hB
      go_wp2_with fail
      refine wp_region_grow (by kernel_rfl) (by kernel_rfl) ?_
      repeat (go_big_quiet_step ((first | exact calls_quiet _ (cQ _) | exact calls_quiet2 _ _ (cQ _))))
      refine wpQuiet_nil ?_
      rintro _ ⟨xg, rfl⟩
      have hb9 := bel_grow hbr xg
      generalize grow wr xg = W9 at *
      go_wp2_with fail
      go_roundw
      case rel => exact ⟨k + 1, by go_num, by omega, hb9⟩
      case measure => simp [intOf]; omega
    · obtain rfl : k = fs.length := by omega
      go_wp2
      go_ret
      exact ⟨rfl, hbr⟩

set_option maxHeartbeats 8000000 in
theorem dsame_yes (W : World) (A1 A2 A3 B1 B2 B3 : Option Addr) (c1 c2 c3 d1 d2 d3 : Nat) (t : TopoT) (hA : TopoV W A1 A2 A3 t) (hB : TopoV W B1 B2 B3 t) (he : t.es.length < 1099511627776) (hf : t.fans.length < 1099511627776) (hr : t.rs.length = t.fans.length) (hx : ∀ x ∈ t.fans, x.length < 1099511627776) :
    Calls Try.prog 19 #[.agg #[.slice A1 t.es.length c1, .slice A2 t.fans.length c2, .slice A3 t.rs.length c3], .agg #[.slice B1 t.es.length d1, .slice B2 t.fans.length d2, .slice B3 t.rs.length d3]] W fun e W' => e = .returned (.bool true) ∧ Below W.heap.size W W' := by
  rw [hr]
  have hb0 : Below W.heap.size W ((W.alloc (.cells #[.slice A1 t.es.length c1, .slice A2 t.fans.length c2, .slice A3 t.fans.length c3] 29)).alloc (.cells #[.slice B1 t.es.length d1, .slice B2 t.fans.length d2, .slice B3 t.fans.length d3] 29)) := bel_alloc (bel_alloc (Below.refl _ _) _) _
  have hx0 : Blk (W.alloc (.cells #[.slice A1 t.es.length c1, .slice A2 t.fans.length c2, .slice A3 t.fans.length c3] 29)) W.heap.size 29 #[.slice A1 t.es.length c1, .slice A2 t.fans.length c2, .slice A3 t.fans.length c3] := Blk.new _ _ _ _ rfl
  have hX := hx0.alloc (.cells #[.slice B1 t.es.length d1, .slice B2 t.fans.length d2, .slice B3 t.fans.length d3] 29)
  have hY : Blk ((W.alloc (.cells #[.slice A1 t.es.length c1, .slice A2 t.fans.length c2, .slice A3 t.fans.length c3] 29)).alloc (.cells #[.slice B1 t.es.length d1, .slice B2 t.fans.length d2, .slice B3 t.fans.length d3] 29)) (W.heap.size + 1) 29 #[.slice B1 t.es.length d1, .slice B2 t.fans.length d2, .slice B3 t.fans.length d3] := Blk.new _ _ _ _ (by simp)
  clear hx0
  go_enter Try.func19, Try.ntmps19
  go_upto_region 1 with (fail)
  generalize (W.alloc (.cells #[.slice A1 t.es.length c1, .slice A2 t.fans.length c2, .slice A3 t.fans.length c3] 29)).alloc (.cells #[.slice B1 t.es.length d1, .slice B2 t.fans.length d2, .slice B3 t.fans.length d3] 29) = W1 at *
  have hA1 := hA.below hb0
  have hB1 := hB.below hb0
  clear hA hB
  have x0 : W1.cell? ⟨W.heap.size, 0, none⟩ = some (.slice A1 t.es.length c1) := hX.cell 0
  have x1 : W1.cell? ⟨W.heap.size, 1, none⟩ = some (.slice A2 t.fans.length c2) := hX.cell 1
  have x2 : W1.cell? ⟨W.heap.size, 2, none⟩ = some (.slice A3 t.fans.length c3) := hX.cell 2
  have y0 : W1.cell? ⟨W.heap.size + 1, 0, none⟩ = some (.slice B1 t.es.length d1) := hY.cell 0
  have y1 : W1.cell? ⟨W.heap.size + 1, 1, none⟩ = some (.slice B2 t.fans.length d2) := hY.cell 1
  have y2 : W1.cell? ⟨W.heap.size + 1, 2, none⟩ = some (.slice B3 t.fans.length d3) := hY.cell 2
  have xl := hX.lt
  have yl := hY.lt
  go_wp2
  clear x0 x1 x2 y0 y1 y2 xl yl
  go_loopw [5] (fun i wr => ∃ k : Nat, i = .int .i64 (k : Int) ∧ k ≤ t.es.length ∧ Below W1.heap.size W1 wr) (fun i _ => t.es.length - (intOf i).toNat)
  case atStart => exact ⟨0, rfl, by omega, Below.refl _ _⟩
  case round =>
    obtain ⟨k, rfl, hk, hbr⟩ := hrel
    have hX2 := hX.below hbr
    have hY2 := hY.below hbr
    have hA2 := hA1.below hbr
    have hB2 := hB1.below hbr
    have x0 : wr.cell? ⟨W.heap.size, 0, none⟩ = some (.slice A1 t.es.length c1) := hX2.cell 0
    have x1 : wr.cell? ⟨W.heap.size, 1, none⟩ = some (.slice A2 t.fans.length c2) := hX2.cell 1
    have x2 : wr.cell? ⟨W.heap.size, 2, none⟩ = some (.slice A3 t.fans.length c3) := hX2.cell 2
    have y0 : wr.cell? ⟨W.heap.size + 1, 0, none⟩ = some (.slice B1 t.es.length d1) := hY2.cell 0
    have y1 : wr.cell? ⟨W.heap.size + 1, 1, none⟩ = some (.slice B2 t.fans.length d2) := hY2.cell 1
    have y2 : wr.cell? ⟨W.heap.size + 1, 2, none⟩ = some (.slice B3 t.fans.length d3) := hY2.cell 2
    have xl := hX2.lt
    have yl := hY2.lt
    by_cases hlt : k < t.es.length
    · obtain ⟨b1, off1, rfl, hbl1, g1⟩ := hA2.es (by omega)
      obtain ⟨b2, off2, rfl, hbl2, g2⟩ := hB2.es (by omega)
      obtain ⟨p1, p2, p3, p4⟩ := g1 k hlt
      obtain ⟨r1, r2, r3, r4⟩ := g2 k hlt
      have k0 : (0 : Int) ≤ (k : Int) := by omega
      have k1 : (k : Int) < (t.es.length : Int) := by omega
      clear g1 g2
      generalize t.es[k] = ed at *
      obtain ⟨ea, eb, ef, eg⟩ := ed
      simp only at p1 p2 p3 p4 r1 r2 r3 r4
      go_wp2_with fail
      refine wp_region_grow (by kernel_rfl) (by kernel_rfl) ?_
      repeat (go_big_quiet_step ((fail)))
      refine wpQuiet_nil ?_
      rintro _ ⟨xg, rfl⟩
      have hb9 := bel_grow hbr xg
      generalize grow wr xg = W9 at *
      go_wp2_with fail
      go_roundw
      case rel => exact ⟨k + 1, by go_num, by omega, hb9⟩
      case measure => simp [intOf]; omega
    · obtain rfl : k = t.es.length := by omega
      go_wp2
      clear x0 x1 x2 y0 y1 y2 xl yl
      go_loopw [6] (fun i wq => ∃ k : Nat, i = .int .i64 (k : Int) ∧ k ≤ t.fans.length ∧ Below W1.heap.size W1 wq) (fun i _ => t.fans.length - (intOf i).toNat)
      case atStart => exact ⟨0, rfl, by omega, hbr⟩
      case round =>
        clear hbr hX2 hY2 hA2 hB2
        obtain ⟨k, rfl, hk, hbr⟩ := hrel
        have hX2 := hX.below hbr
        have hY2 := hY.below hbr
        have hA2 := hA1.below hbr
        have hB2 := hB1.below hbr
        have x0 : wr.cell? ⟨W.heap.size, 0, none⟩ = some (.slice A1 t.es.length c1) := hX2.cell 0
        have x1 : wr.cell? ⟨W.heap.size, 1, none⟩ = some (.slice A2 t.fans.length c2) := hX2.cell 1
        have x2 : wr.cell? ⟨W.heap.size, 2, none⟩ = some (.slice A3 t.fans.length c3) := hX2.cell 2
        have y0 : wr.cell? ⟨W.heap.size + 1, 0, none⟩ = some (.slice B1 t.es.length d1) := hY2.cell 0
        have y1 : wr.cell? ⟨W.heap.size + 1, 1, none⟩ = some (.slice B2 t.fans.length d2) := hY2.cell 1
        have y2 : wr.cell? ⟨W.heap.size + 1, 2, none⟩ = some (.slice B3 t.fans.length d3) := hY2.cell 2
        have xl := hX2.lt
        have yl := hY2.lt
        by_cases hlt : k < t.fans.length
        · obtain ⟨b1, off1, C1a, m1, rfl, hbl1, p1, hI1⟩ := hA2.fans.at_ k hlt
          obtain ⟨b2, off2, C2a, m2, rfl, hbl2, p2, hI2⟩ := hB2.fans.at_ k hlt
          obtain ⟨b3, off3, rfl, hbl3, g3⟩ := hA2.rs (by omega)
          obtain ⟨b4, off4, rfl, hbl4, g4⟩ := hB2.rs (by omega)
          have p3 := g3 k (by omega)
          have p4 := g4 k (by omega)
          have hxl := hx _ (List.getElem_mem hlt)
          have k0 : (0 : Int) ≤ (k : Int) := by omega
          have k1 : (k : Int) < (t.fans.length : Int) := by omega
          clear g3 g4
          have hfa := hA1.fans
          have hfb := hB1.fans
          have hi1 : ∀ wq, Below W1.heap.size W1 wq → ∃ C m D n, wq.cell? ⟨b1, off1 + k, none⟩ = some (.slice C t.fans[k].length m) ∧ wq.cell? ⟨b2, off2 + k, none⟩ = some (.slice D t.fans[k].length n) ∧ b1 < wq.heap.size ∧ b2 < wq.heap.size ∧ IL wq C t.fans[k] ∧ IL wq D t.fans[k] := fun wq hb => by
            obtain ⟨_, _, C, m, e1, l1, q1, J1⟩ := (hfa.below hb).at_ k hlt
            obtain ⟨_, _, D, n, e2, l2, q2, J2⟩ := (hfb.below hb).at_ k hlt
            cases e1; cases e2
            exact ⟨C, m, D, n, q1, q2, l1, l2, J1, J2⟩
          clear hI1 hI2 hfa hfb
          generalize t.fans[k] = x at *
          generalize t.rs[k] = rb at *
          replace hi1 := Lib.hid hi1
          cases rb
          all_goals (
            go_wp2_with fail
            refine wp_region_grow (by kernel_rfl) (by kernel_rfl) ?_
            repeat (go_big_quiet_step ((fail)))
            refine wpQuiet_nil ?_
            rintro _ ⟨xg, rfl⟩
            have hb9 := bel_grow hbr xg
            generalize grow wr xg = W9 at *
            go_wp2_with fail
            clear p1 p2 p3 p4 hbl1 hbl2 hbl3 hbl4 x0 x1 x2 y0 y1 y2 xl yl hX2 hY2 hA2 hB2 hbr
            go_loopw [7] (fun i wq => ∃ q : Nat, i = .int .i64 (q : Int) ∧ q ≤ x.length ∧ Below W1.heap.size W1 wq) (fun i _ => x.length - (intOf i).toNat)
            case atStart => exact ⟨0, rfl, by omega, hb9⟩
            case round =>
              clear hb9
              obtain ⟨q, rfl, hq, hbr⟩ := hrel
              obtain ⟨C, m, D, n, p1, p2, l1, l2, J1, J2⟩ := hi1.out _ hbr
              have hX2 := hX.below hbr
              have hY2 := hY.below hbr
              have hA2 := hA1.below hbr
              have hB2 := hB1.below hbr
              have x0 : wr.cell? ⟨W.heap.size, 0, none⟩ = some (.slice A1 t.es.length c1) := hX2.cell 0
              have x1 : wr.cell? ⟨W.heap.size, 1, none⟩ = some (.slice (some ⟨b1, off1, none⟩) t.fans.length c2) := hX2.cell 1
              have x2 : wr.cell? ⟨W.heap.size, 2, none⟩ = some (.slice (some ⟨b3, off3, none⟩) t.fans.length c3) := hX2.cell 2
              have y0 : wr.cell? ⟨W.heap.size + 1, 0, none⟩ = some (.slice B1 t.es.length d1) := hY2.cell 0
              have y1 : wr.cell? ⟨W.heap.size + 1, 1, none⟩ = some (.slice (some ⟨b2, off2, none⟩) t.fans.length d2) := hY2.cell 1
              have y2 : wr.cell? ⟨W.heap.size + 1, 2, none⟩ = some (.slice (some ⟨b4, off4, none⟩) t.fans.length d3) := hY2.cell 2
              have xl := hX2.lt
              have yl := hY2.lt
              by_cases hq2 : q < x.length
              · obtain ⟨b5, off5, rfl, l5, s1⟩ := J1.at_ q hq2
                obtain ⟨b6, off6, rfl, l6, s2⟩ := J2.at_ q hq2
                have k2 : (0 : Int) ≤ (q : Int) := by omega
                have k3 : (q : Int) < (x.length : Int) := by omega
                generalize x[q] = xv at *
                go_wp2_with fail
                refine wp_region_grow (by kernel_rfl) (by kernel_rfl) ?_
                repeat (go_big_quiet_step ((fail)))
                refine wpQuiet_nil ?_
                rintro _ ⟨xg, rfl⟩
                have hb9 := bel_grow hbr xg
                generalize grow wr xg = W9 at *
                go_wp2_with fail
                go_roundw
                case rel => exact ⟨q + 1, by go_num, by omega, hb9⟩
                case measure => simp [intOf]; omega
              · obtain rfl : q = x.length := by omega
                go_wp2
                go_roundw
                case rel => exact ⟨k + 1, by go_num, by omega, hbr⟩
                case measure => simp [intOf]; omega)
        · obtain rfl : k = t.fans.length := by omega
          go_wp2
          go_ret
          exact ⟨rfl, bel_trans hb0 hbr⟩
end Go.Proofs.Ytbehobojgeganaa
