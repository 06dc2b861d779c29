/- ReliefRepeats holds for every input: the row, out of the walk. No condition. -/
import Derived.SizedLaws
import Derived.Test.YteigionfaodafaaRows
import Derived.Test.YteigionfaodafaaC4
import Derived.Test.YteigionfaodafaaC6
import Derived.Test.YteigionfaodafaaC7
namespace Go.Proofs.Yteigionfaodafaa.reliefRepeats
open Go.ChangeShapes Go.WideShapes Go.ChangeAt Go.RowKit
set_option linter.unusedVariables false
set_option linter.unusedSimpArgs false
theorem cell_more {x c k : Int} (hc : 1 ≤ c) : cellN (x + 16 * c * k) c = cellN x c := by
  unfold cellN
  rw [show x + 16 * c * k = x + (c * k) * 16 by grind, Int.add_mul_ediv_right _ _ (by omega), Int.mul_comm c k, Int.add_mul_emod_self_right]
theorem texN_x {tw th k : Int} {p : P3} (h : 1 ≤ tw) : texN tw th ⟨p.x + 16 * tw * k, p.y, p.z⟩ = texN tw th p := by
  unfold texN; simp only [cell_more h]
theorem texN_y {tw th k : Int} {p : P3} (h : 1 ≤ th) : texN tw th ⟨p.x, p.y + 16 * th * k, p.z⟩ = texN tw th p := by
  unfold texN; simp only
  rw [show p.y + 16 * th * k + p.z = p.y + p.z + 16 * th * k by omega, cell_more h]
theorem texN_yz {tw th k : Int} {p : P3} : texN tw th ⟨p.x, p.y + k, p.z + -k⟩ = texN tw th p := by
  unfold texN; simp only
  rw [show p.y + k + (p.z + -k) = p.y + p.z by omega]
theorem texV_same {tw th : Int} {rows : List Int} {p q : P3} (hp : texK tw th rows p = true) (hq : texK tw th rows q = true) (h : texN tw th q = texN tw th p) : texV tw th rows p = texV tw th rows q := by
  unfold texV
  rw [if_pos hp, if_pos hq, h]
theorem texV_bd {tw th : Int} {rows : List Int} {p : P3} (hp : texK tw th rows p = true) : 0 ≤ texV tw th rows p ∧ texV tw th rows p ≤ 255 := by
  obtain ⟨hb, hk, e⟩ := texV_yes hp
  rw [e]
  unfold texK at hp
  rw [Bool.and_eq_true] at hp
  exact (rightF_yes hp.1).2.2.2 _ (List.getElem_mem hk)
theorem mul_k {c k : Int} (hc : 1 ≤ c ∧ c ≤ 16) (hk : -100 ≤ k ∧ k ≤ 100) : -25600 ≤ 16 * c * k ∧ 16 * c * k ≤ 25600 := by
  have a := mul_bd (m := 16) (n := 100) (a := c) (b := k) (by omega) hk
  rw [Int.mul_assoc]
  omega
set_option maxRecDepth 100000 in
set_option maxHeartbeats 8000000 in
theorem none_ (W : World) (nm : ByteArray) (tw th : Int) (A : Option Addr) (c : Nat) (rows : List Int) (hA : IL W A rows) (p : P3) (k : Int) (hl : rows.length ≤ 2000) (hk : -100 ≤ k ∧ k ≤ 100)
    (kT : ∀ (W' : World) (B : Option Addr) (d : Nat), IL W' B rows → Calls Try.prog 10 #[.agg #[.string nm, .int .i64 tw, .int .i64 th, .slice B rows.length d], .agg #[.int .i64 p.x, .int .i64 p.y, .int .i64 p.z]] W' fun e w' => e = .returned (.tuple #[.int .i64 0, .bool false]) ∧ ∃ x, w' = grow W' x) :
    Calls Try.prog 7 #[.agg #[.string nm, .int .i64 tw, .int .i64 th, .slice A rows.length c], .agg #[.int .i64 p.x, .int .i64 p.y, .int .i64 p.z], .int .i64 k] W fun e w' => e = .returned (.bool true) ∧ Below W.heap.size W w' := by
  have al := alive14_any
  have hg : ¬ ((rows.length : Int) > 2000) := by omega
  obtain ⟨g1, g2⟩ := hk
  --BEGIN none
  go_enter Try.func7, Try.ntmps7
  go_upto_region 1 with (fail)
  have hB : Below W.heap.size W ((W.alloc (.cells #[.string nm, .int .i64 tw, .int .i64 th, .slice A rows.length c] 24)).alloc (.cells #[.int .i64 p.x, .int .i64 p.y, .int .i64 p.z] 26)) := bel_alloc (bel_alloc (Below.refl _ _) _) _
  have pt : Blk ((W.alloc (.cells #[.string nm, .int .i64 tw, .int .i64 th, .slice A rows.length c] 24)).alloc (.cells #[.int .i64 p.x, .int .i64 p.y, .int .i64 p.z] 26)) (W.heap.size) 24 #[.string nm, .int .i64 tw, .int .i64 th, .slice A rows.length c] := (Blk.new _ _ _ _ rfl).alloc _
  have pp : Blk ((W.alloc (.cells #[.string nm, .int .i64 tw, .int .i64 th, .slice A rows.length c] 24)).alloc (.cells #[.int .i64 p.x, .int .i64 p.y, .int .i64 p.z] 26)) (W.heap.size + 1) 26 #[.int .i64 p.x, .int .i64 p.y, .int .i64 p.z] := Blk.new _ _ _ _ (by simp)
  replace hA := hA.below hB
  generalize ((W.alloc (.cells #[.string nm, .int .i64 tw, .int .i64 th, .slice A rows.length c] 24)).alloc (.cells #[.int .i64 p.x, .int .i64 p.y, .int .i64 p.z] 26)) = W0 at *
  have ptl := pt.lt
  have ptc0 := pt.cell 0
  have ptc1 := pt.cell 1
  have ptc2 := pt.cell 2
  have ptc3 := pt.cell 3
  have ppl := pp.lt
  have ppc0 := pp.cell 0
  have ppc1 := pp.cell 1
  have ppc2 := pp.cell 2
  go_upto_region 5 with (first | (go_at_call 8; first | ((with_reducible refine (al.at_ _).mono ?_); rintro e w' ⟨rfl, xa, rfl⟩)) | fail)
  replace hB := bel_grow hB xa
  replace hA := ilR_grow hA xa
  replace pt := pt.grow xa
  replace pp := pp.grow xa
  clear ptl ptc0 ptc1 ptc2 ptc3 ppl ppc0 ppc1 ppc2
  generalize grow W0 xa = W1 at *
  have ptl := pt.lt
  have ptc0 := pt.cell 0
  have ptc1 := pt.cell 1
  have ptc2 := pt.cell 2
  have ptc3 := pt.cell 3
  have ppl := pp.lt
  have ppc0 := pp.cell 0
  have ppc1 := pp.cell 1
  have ppc2 := pp.cell 2
  go_wp2_with (first | (go_at_call 10; (with_reducible refine (kT _ _ _ hA).mono ?_); rintro e w' ⟨rfl, xb, rfl⟩) | fail)
  go_ret
  exact ⟨rfl, bel_trans hB (by repeat (first | exact Below.refl _ _ | refine bel_then ?_ _ | refine bel_grow ?_ _ | refine bel_alloc ?_ _ | refine bel_drew ?_ | refine bel_set ?_ (by simp) _ | refine bel_setRow ?_ (by first | omega | (simp; done) | (refine Nat.le_trans ?_ (top_le _ _); simp; done) | (refine Nat.le_succ_of_le (Nat.le_trans ?_ (top_le _ _)); simp; done) | (refine Nat.le_trans ?_ (top_le _ _); simp only [World.size_alloc]; refine Nat.le_succ_of_le (Nat.le_trans ?_ (top_le _ _)); simp; done)) _))⟩
  --END none
set_option maxRecDepth 100000 in
set_option maxHeartbeats 8000000 in
theorem some_ (W : World) (nm : ByteArray) (tw th : Int) (A : Option Addr) (c : Nat) (rows : List Int) (hA : IL W A rows) (p q r s qx qy qz : P3) (k : Int) (hl : rows.length ≤ 2000) (hk : -100 ≤ k ∧ k ≤ 100) (ht : 1 ≤ tw ∧ tw ≤ 16) (hh : 1 ≤ th ∧ th ≤ 16)
    (v v1 v2 v3 : Int) (o1 o2 o3 : Bool) (hv : 0 ≤ v ∧ v ≤ 255) (h1 : o1 = true → v = v1) (h2 : o2 = true → v = v2) (h3 : o3 = true → v = v3)
    (kT : ∀ (W' : World) (B : Option Addr) (d : Nat), IL W' B rows → Calls Try.prog 10 #[.agg #[.string nm, .int .i64 tw, .int .i64 th, .slice B rows.length d], .agg #[.int .i64 p.x, .int .i64 p.y, .int .i64 p.z]] W' fun e w' => e = .returned (.tuple #[.int .i64 v, .bool true]) ∧ ∃ x, w' = grow W' x)
    (kA1 : Gives Try.prog 23 #[.agg #[.int .i64 p.x, .int .i64 p.y, .int .i64 p.z], .agg #[.int .i64 (16 * tw * k), .int .i64 0, .int .i64 0]] (.agg #[.int .i64 q.x, .int .i64 q.y, .int .i64 q.z]))
    (kT1 : ∀ (W' : World) (B : Option Addr) (d : Nat), IL W' B rows → Calls Try.prog 10 #[.agg #[.string nm, .int .i64 tw, .int .i64 th, .slice B rows.length d], .agg #[.int .i64 q.x, .int .i64 q.y, .int .i64 q.z]] W' fun e w' => e = .returned (.tuple #[.int .i64 v1, .bool o1]) ∧ ∃ x, w' = grow W' x)
    (kA2 : Gives Try.prog 23 #[.agg #[.int .i64 p.x, .int .i64 p.y, .int .i64 p.z], .agg #[.int .i64 0, .int .i64 (16 * th * k), .int .i64 0]] (.agg #[.int .i64 r.x, .int .i64 r.y, .int .i64 r.z]))
    (kT2 : ∀ (W' : World) (B : Option Addr) (d : Nat), IL W' B rows → Calls Try.prog 10 #[.agg #[.string nm, .int .i64 tw, .int .i64 th, .slice B rows.length d], .agg #[.int .i64 r.x, .int .i64 r.y, .int .i64 r.z]] W' fun e w' => e = .returned (.tuple #[.int .i64 v2, .bool o2]) ∧ ∃ x, w' = grow W' x)
    (kA3 : Gives Try.prog 23 #[.agg #[.int .i64 p.x, .int .i64 p.y, .int .i64 p.z], .agg #[.int .i64 0, .int .i64 k, .int .i64 (-k)]] (.agg #[.int .i64 s.x, .int .i64 s.y, .int .i64 s.z]))
    (kT3 : ∀ (W' : World) (B : Option Addr) (d : Nat), IL W' B rows → Calls Try.prog 10 #[.agg #[.string nm, .int .i64 tw, .int .i64 th, .slice B rows.length d], .agg #[.int .i64 s.x, .int .i64 s.y, .int .i64 s.z]] W' fun e w' => e = .returned (.tuple #[.int .i64 v3, .bool o3]) ∧ ∃ x, w' = grow W' x) :
    Calls Try.prog 7 #[.agg #[.string nm, .int .i64 tw, .int .i64 th, .slice A rows.length c], .agg #[.int .i64 p.x, .int .i64 p.y, .int .i64 p.z], .int .i64 k] W fun e w' => e = .returned (.bool true) ∧ Below W.heap.size W w' := by
  have al := alive14_any
  have hg : ¬ ((rows.length : Int) > 2000) := by omega
  have m1 := mul_k ht hk
  have m2 := mul_k hh hk
  obtain ⟨g1, g2⟩ := hk
  obtain ⟨t1, t2⟩ := ht
  obtain ⟨t3, t4⟩ := hh
  --BEGIN some
  go_enter Try.func7, Try.ntmps7
  go_upto_region 1 with (fail)
  have hB : Below W.heap.size W ((W.alloc (.cells #[.string nm, .int .i64 tw, .int .i64 th, .slice A rows.length c] 24)).alloc (.cells #[.int .i64 p.x, .int .i64 p.y, .int .i64 p.z] 26)) := bel_alloc (bel_alloc (Below.refl _ _) _) _
  have pt : Blk ((W.alloc (.cells #[.string nm, .int .i64 tw, .int .i64 th, .slice A rows.length c] 24)).alloc (.cells #[.int .i64 p.x, .int .i64 p.y, .int .i64 p.z] 26)) (W.heap.size) 24 #[.string nm, .int .i64 tw, .int .i64 th, .slice A rows.length c] := (Blk.new _ _ _ _ rfl).alloc _
  have pp : Blk ((W.alloc (.cells #[.string nm, .int .i64 tw, .int .i64 th, .slice A rows.length c] 24)).alloc (.cells #[.int .i64 p.x, .int .i64 p.y, .int .i64 p.z] 26)) (W.heap.size + 1) 26 #[.int .i64 p.x, .int .i64 p.y, .int .i64 p.z] := Blk.new _ _ _ _ (by simp)
  replace hA := hA.below hB
  generalize ((W.alloc (.cells #[.string nm, .int .i64 tw, .int .i64 th, .slice A rows.length c] 24)).alloc (.cells #[.int .i64 p.x, .int .i64 p.y, .int .i64 p.z] 26)) = W0 at *
  have ptl := pt.lt
  have ptc0 := pt.cell 0
  have ptc1 := pt.cell 1
  have ptc2 := pt.cell 2
  have ptc3 := pt.cell 3
  have ppl := pp.lt
  have ppc0 := pp.cell 0
  have ppc1 := pp.cell 1
  have ppc2 := pp.cell 2
  go_upto_region 5 with (first | (go_at_call 8; first | ((with_reducible refine (al.at_ _).mono ?_); rintro e w' ⟨rfl, xa, rfl⟩)) | fail)
  replace hB := bel_grow hB xa
  replace hA := ilR_grow hA xa
  replace pt := pt.grow xa
  replace pp := pp.grow xa
  clear ptl ptc0 ptc1 ptc2 ptc3 ppl ppc0 ppc1 ppc2
  generalize grow W0 xa = W1 at *
  have ptl := pt.lt
  have ptc0 := pt.cell 0
  have ptc1 := pt.cell 1
  have ptc2 := pt.cell 2
  have ptc3 := pt.cell 3
  have ppl := pp.lt
  have ppc0 := pp.cell 0
  have ppc1 := pp.cell 1
  have ppc2 := pp.cell 2
  go_upto_region 8 with (first | (go_at_call 10; (with_reducible refine (kT _ _ _ hA).mono ?_); rintro e w' ⟨rfl, xb, rfl⟩) | fail)
  replace hB := bel_grow hB xb
  replace hA := ilR_grow hA xb
  replace pt := pt.grow xb
  replace pp := pp.grow xb
  clear ptl ptc0 ptc1 ptc2 ptc3 ppl ppc0 ppc1 ppc2
  generalize grow W1 xb = W2 at *
  have ptl := pt.lt
  have ptc0 := pt.cell 0
  have ptc1 := pt.cell 1
  have ptc2 := pt.cell 2
  have ptc3 := pt.cell 3
  have ppl := pp.lt
  have ppc0 := pp.cell 0
  have ppc1 := pp.cell 1
  have ppc2 := pp.cell 2
  have kQ : ∀ x, Calls Try.prog 10 _ (grow W2 x) _ := fun x => kT1 (grow W2 x) A c (ilR_grow hA x)
  refine wp_region_grow (by kernel_rfl) (by kernel_rfl) ?_
  repeat (go_big_quiet_step ((first | with_reducible exact kA1.quiet _ | with_reducible exact kA1.quiet2 _ _ | with_reducible exact cqr1 _ (kQ _) | with_reducible exact cqr2 _ _ (kQ _))))
  refine wpQuiet_nil ?_
  rintro _ ⟨xc, rfl⟩
  clear kQ
  go_upto_region 9 with (fail)
  replace hB := bel_grow hB xc
  replace hA := ilR_grow hA xc
  replace pt := pt.grow xc
  replace pp := pp.grow xc
  clear ptl ptc0 ptc1 ptc2 ptc3 ppl ppc0 ppc1 ppc2
  generalize grow W2 xc = W3 at *
  have ptl := pt.lt
  have ptc0 := pt.cell 0
  have ptc1 := pt.cell 1
  have ptc2 := pt.cell 2
  have ptc3 := pt.cell 3
  have ppl := pp.lt
  have ppc0 := pp.cell 0
  have ppc1 := pp.cell 1
  have ppc2 := pp.cell 2
  have kQ : ∀ x, Calls Try.prog 10 _ (grow W3 x) _ := fun x => kT2 (grow W3 x) A c (ilR_grow hA x)
  refine wp_region_grow (by kernel_rfl) (by kernel_rfl) ?_
  repeat (go_big_quiet_step ((first | with_reducible exact kA2.quiet _ | with_reducible exact kA2.quiet2 _ _ | with_reducible exact cqr1 _ (kQ _) | with_reducible exact cqr2 _ _ (kQ _))))
  refine wpQuiet_nil ?_
  rintro _ ⟨xd, rfl⟩
  clear kQ
  go_upto_region 10 with (fail)
  replace hB := bel_grow hB xd
  replace hA := ilR_grow hA xd
  replace pt := pt.grow xd
  replace pp := pp.grow xd
  clear ptl ptc0 ptc1 ptc2 ptc3 ppl ppc0 ppc1 ppc2
  generalize grow W3 xd = W4 at *
  have ptl := pt.lt
  have ptc0 := pt.cell 0
  have ptc1 := pt.cell 1
  have ptc2 := pt.cell 2
  have ptc3 := pt.cell 3
  have ppl := pp.lt
  have ppc0 := pp.cell 0
  have ppc1 := pp.cell 1
  have ppc2 := pp.cell 2
  have kQ : ∀ x, Calls Try.prog 10 _ (grow W4 x) _ := fun x => kT3 (grow W4 x) A c (ilR_grow hA x)
  refine wp_region_grow (by kernel_rfl) (by kernel_rfl) ?_
  repeat (go_big_quiet_step ((first | with_reducible exact kA3.quiet _ | with_reducible exact kA3.quiet2 _ _ | with_reducible exact cqr1 _ (kQ _) | with_reducible exact cqr2 _ _ (kQ _))))
  refine wpQuiet_nil ?_
  rintro _ ⟨xe, rfl⟩
  clear kQ
  obtain ⟨hv0, hv1⟩ := hv
  cases o1 <;> cases o2 <;> cases o3
  all_goals
    try (obtain rfl := h1 rfl)
    try (have h2' := h2 rfl)
    try (have h3' := h3 rfl)
    try subst h2'
    try subst h3'
    go_wp2_with fail
    go_ret
    exact ⟨rfl, bel_trans hB (by repeat (first | exact Below.refl _ _ | refine bel_then ?_ _ | refine bel_grow ?_ _ | refine bel_alloc ?_ _ | refine bel_drew ?_ | refine bel_set ?_ (by simp) _ | refine bel_setRow ?_ (by first | omega | (simp; done) | (refine Nat.le_trans ?_ (top_le _ _); simp; done) | (refine Nat.le_succ_of_le (Nat.le_trans ?_ (top_le _ _)); simp; done) | (refine Nat.le_trans ?_ (top_le _ _); simp only [World.size_alloc]; refine Nat.le_succ_of_le (Nat.le_trans ?_ (top_le _ _)); simp; done)) _))⟩
  --END some
set_option maxRecDepth 100000 in
set_option maxHeartbeats 4000000 in
theorem walk (W : World) (nm : ByteArray) (tw th : Int) (A : Option Addr) (c : Nat) (rows : List Int) (ht : i64B tw ∧ i64B th) (hr : rows.length ≤ reachBytes) (hA : IL W A rows) (p : P3) (kp : I3 p) (k : Int) (hk : -9223372036854775808 ≤ k ∧ k ≤ 9223372036854775807) :
    Calls Try.prog 7 #[.agg #[.string nm, .int .i64 tw, .int .i64 th, .slice A rows.length c], .agg #[.int .i64 p.x, .int .i64 p.y, .int .i64 p.z], .int .i64 k] W fun e w' => e = .returned (.bool true) ∧ Below W.heap.size W w' := by
  by_cases hl : rows.length ≤ 2000 ∧ -100 ≤ k ∧ k ≤ 100
  · obtain ⟨hl, hk⟩ := hl
    have kT := fun (q : P3) (W' : World) (B : Option Addr) (d : Nat) (hB : IL W' B rows) => texel_any W' nm tw th B d rows hB (by omega) q
    unfold texC at kT
    cases hx : texK tw th rows p
    · have k0 := kT p
      rw [texV_no hx, hx] at k0
      exact none_ W nm tw th A c rows hA p k hl hk k0
    · have hx' := hx
      unfold texK at hx'
      rw [Bool.and_eq_true] at hx'
      obtain ⟨hw, hh, _, _⟩ := rightF_yes hx'.1
      have hp := (wiB_iff _ _ _ _).1 hx'.2
      have m1 := mul_k hw hk
      have m2 := mul_k hh hk
      have a1 := rAdd_any p.x p.y p.z (16 * tw * k) 0 0
      have a2 := rAdd_any p.x p.y p.z 0 (16 * th * k) 0
      have a3 := rAdd_any p.x p.y p.z 0 k (-k)
      rw [show wrap64 (p.x + 16 * tw * k) = p.x + 16 * tw * k from wrap_id (by omega) (by omega), show wrap64 (p.y + 0) = p.y from (wrap_id (by omega) (by omega)).trans (by omega), show wrap64 (p.z + 0) = p.z from (wrap_id (by omega) (by omega)).trans (by omega)] at a1
      rw [show wrap64 (p.y + 16 * th * k) = p.y + 16 * th * k from wrap_id (by omega) (by omega), show wrap64 (p.x + 0) = p.x from (wrap_id (by omega) (by omega)).trans (by omega), show wrap64 (p.z + 0) = p.z from (wrap_id (by omega) (by omega)).trans (by omega)] at a2
      rw [show wrap64 (p.y + k) = p.y + k from wrap_id (by omega) (by omega), show wrap64 (p.x + 0) = p.x from (wrap_id (by omega) (by omega)).trans (by omega), show wrap64 (p.z + -k) = p.z + -k from wrap_id (by omega) (by omega)] at a3
      have k0 := kT p
      rw [hx] at k0
      exact some_ W nm tw th A c rows hA p ⟨p.x + 16 * tw * k, p.y, p.z⟩ ⟨p.x, p.y + 16 * th * k, p.z⟩ ⟨p.x, p.y + k, p.z + -k⟩ p p p k hl hk hw hh _ _ _ _ _ _ _ (texV_bd hx) (fun e => texV_same hx e (texN_x hw.1)) (fun e => texV_same hx e (texN_y hh.1)) (fun e => texV_same hx e texN_yz) k0 a1 (kT _) a2 (kT _) a3 (kT _)
  · have al := alive14_any
    rcases (by omega : (rows.length : Int) > 2000 ∨ ((rows.length : Int) ≤ 2000 ∧ k < -100) ∨ ((rows.length : Int) ≤ 2000 ∧ -100 ≤ k ∧ 100 < k)) with hg | ⟨hg, h1⟩ | ⟨hg, h1, h2⟩
    all_goals
      clear hl
      go_enter Try.func7, Try.ntmps7
      go_wp2_with (first | (go_at_call 8; (with_reducible refine (al.at_ _).mono ?_); rintro e w' ⟨rfl, xa, rfl⟩) | fail)
      go_ret
      exact ⟨rfl, (by repeat (first | exact Below.refl _ _ | refine bel_then ?_ _ | refine bel_grow ?_ _ | refine bel_alloc ?_ _ | refine bel_drew ?_ | refine bel_set ?_ (by simp) _ | refine bel_setRow ?_ (by first | omega | (simp; done) | (refine Nat.le_trans ?_ (top_le _ _); simp; done) | (refine Nat.le_succ_of_le (Nat.le_trans ?_ (top_le _ _)); simp; done) | (refine Nat.le_trans ?_ (top_le _ _); simp only [World.size_alloc]; refine Nat.le_succ_of_le (Nat.le_trans ?_ (top_le _ _)); simp; done)) _))⟩

theorem own : ownKnob Try.prog.godebug = none := by kernel_rfl
set_option maxRecDepth 100000 in
theorem lifted (os : Os) (started : os.Started) (H : Type) (enc : TypeId × Value → H) :
    ReturnsInHanded {} Try.checked os 7 .any (Rows.reliefRepeatsSpec.pre6 enc Try.prog Try.f7 Rows.reliefRepeatsRow.domain false) (Rows.reliefRepeatsSpec.post enc Try.prog Try.f7 false true false false) := by
  refine returnsInHanded_of_change_sized (C := Try.checked) own started (by kernel_rfl) Try.func7
    (ChangeSpec.witness6 (enc := enc) (C := Try.checked) false ⟨#[], #[.agg #[.string ByteArray.empty, .int .i64 0, .int .i64 0, .slice none 0 0], .agg #[.int .i64 0, .int .i64 0, .int .i64 0], .int .i64 0], []⟩ 12 (by kernel_rfl) (by kernel_rfl) (by kernel_rfl) (by kernel_rfl)) ?_
  intro W base args ds gs before hval0 hW hcnd hwt _
  have hval : ∀ (j : Nat) t v, Try.f7.params[j]? = some t → args[j]? = some v → Value.okWide Try.prog W .any base t v := hval0
  have hW' := hW
  obtain ⟨p, q, hA0, hV, rfl, hfz, hnd⟩ := hW
  have hA : DataW.TrodAll enc Try.prog W 0 (fun _ => true) true Try.f7.params.toList args.toList ds p := hA0
  rw [Try.params7] at hA hval
  obtain ⟨v0, vs0, d0, ds0, p0, q0, hargs, rfl, rfl, h0, r0⟩ := trodAll_cons hA
  obtain ⟨v1, vs1, d1, ds1, p1, q1, rfl, rfl, rfl, h1, r1⟩ := trodAll_cons r0
  obtain ⟨v2, vs2, d2, ds2, p2, q2, rfl, rfl, rfl, h2, r2⟩ := trodAll_cons r1
  obtain ⟨rfl, rfl, rfl⟩ := trodAll_nil r2
  obtain rfl : args = #[v0, v1, v2] := by cases args; simp_all
  obtain ⟨cs0, rfl, hsz0⟩ := okWide_struct Try.underlying24 (hval 0 24 v0 rfl rfl)
  rw [szTx] at hsz0
  have hTW0 : TW enc Try.prog W 0 (fun _ => true) true 24 cs0.toList := by
    obtain ⟨fu, hfu⟩ := h0
    refine ⟨fu, _, hfu, fun n hn => ?_⟩
    have := List.all_eq_true.1 hwt n (DataW.weights_mem_each (j := 0) (t := 24) (d := d0) (by rw [Try.params7]; rfl) (by rfl) n hn)
    simpa using this
  obtain ⟨nm0, tw0, th0, A0, k0, rows0, ecs0, hb0, hl0, hIL0⟩ := open_Tex (by simpa using hsz0) hTW0
  obtain rfl : cs0 = #[.string nm0, .int .i64 tw0, .int .i64 th0, .slice A0 rows0.length k0] := Array.ext' ecs0
  clear hTW0
  obtain ⟨a1, rfl, k1⟩ := open_P (hval 1 26 v1 rfl rfl) h1
  obtain ⟨a2, rfl, b2⟩ := open_int64 (hval 2 3 v2 rfl rfl) h2
  refine (walk W nm0 tw0 th0 A0 k0 rows0 hb0 hl0 hIL0 a1 k1 a2 b2).mono fun e W' ⟨he, hb⟩ => ?_
  subst he
  exact ⟨_, rfl, law_post (tb := 4) (by kernel_rfl) (by kernel_rfl) rfl rfl Try.underlying4 rfl rfl rfl hW' hb⟩

theorem over : Rows.reliefRepeatsRow.holds Try.pinned (OpenSpec.ofChange Rows.reliefRepeatsSpec) :=
  OpenClaim.holds_of_wide 7 Try.f7 rfl rfl rfl rfl rfl rfl rfl ⟨rfl, rfl, rfl, rfl, rfl⟩ rfl rfl rfl rfl rfl (by kernel_rfl) Try.func7 (by kernel_rfl)
    (of_decide_eq_true (by kernel_rfl)) (by unfold Func.isWrapper; first | (rw [if_pos (by decide +kernel)]; kernel_rfl) | (rw [if_neg (by decide +kernel)]; exact ⟨rfl, rfl⟩))
    (fun os started H enc _ => lifted os started H enc)

theorem proved : Rows.ReliefRepeatsSaid :=
  over
#print axioms proved
end Go.Proofs.Yteigionfaodafaa.reliefRepeats
