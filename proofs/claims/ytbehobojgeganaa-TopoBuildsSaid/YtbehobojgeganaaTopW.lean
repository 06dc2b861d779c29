/- The document's good. -/
import Derived.Test.YtbehobojgeganaaTopV
namespace Go.Proofs.Ytbehobojgeganaa
open Go.RowKit
set_option linter.unusedVariables false
set_option linter.unusedSimpArgs false
set_option linter.unnecessarySimpa false
set_option maxRecDepth 100000

def C1 (V : Int) (x : List Int) (i : Nat) : Prop := 0 ≤ x.getD i 0 ∧ x.getD i 0 < V ∧ ∀ k, k < i → x.getD i 0 ≠ x.getD k 0
structure GF (V : Int) (fs : List (List Int)) (x : List Int) : Prop where
  three : 3 ≤ x.length
  one : ∀ i, i < x.length → C1 V x i
  goes : ∀ i, i < x.length → 0 ≤ alongV fs (x.getD i 0) (x.getD ((i + 1) % x.length) 0)
def GoodD (V : Int) (fs : List (List Int)) : Prop := ∀ x ∈ fs, GF V fs x
theorem calls_quiet {f : FuncId} {args : Array Value} {v : Value} {w : World} (x : More) (h : Calls Try.prog f args (grow w x) fun e w' => e = .returned v ∧ Below (grow w x).heap.size (grow w x) w') : Calls Try.prog f args (grow w x) fun e w'' => e = .returned v ∧ ∃ y, w'' = grow w y :=
  h.mono fun _ _ ⟨he, hb⟩ => ⟨he, by obtain ⟨y, hy⟩ := grow_of hb; exact ⟨x.then y, hy⟩⟩
theorem calls_quiet2 {f : FuncId} {args : Array Value} {v : Value} {w : World} (x y : More) (h : Calls Try.prog f args (grow w (x.then y)) fun e w' => e = .returned v ∧ Below (grow w (x.then y)).heap.size (grow w (x.then y)) w') : Calls Try.prog f args (grow w (x.then y)) fun e w'' => e = .returned v ∧ ∃ z, w'' = grow w (x.then z) :=
  h.mono fun _ _ ⟨he, hb⟩ => ⟨he, by obtain ⟨z, hz⟩ := grow_of hb; exact ⟨y.then z, hz⟩⟩
/-- Answers whether p. -/
def Says (p : Prop) (W : World) (e : Ending) (W' : World) : Prop := ∃ b, e = .returned (.bool b) ∧ (b = true ↔ p) ∧ Below W.heap.size W W'
theorem getD_at {x : List Int} {i : Nat} (h : i < x.length) : x.getD i 0 = x[i] := by rw [List.getD_eq_getElem?_getD, List.getElem?_eq_getElem h]; rfl

set_option maxHeartbeats 8000000 in
theorem good_any (W : World) (A : Option Addr) (k : Nat) (fs : List (List Int)) (V : Int) (hA : FL W A fs) (hf : fs.length < 1099511627776000) (hx : ∀ x ∈ fs, x.length < 1099511627776000) :
    Calls Try.prog 44 #[.int .i64 V, .slice A fs.length k] W (Says (GoodD V fs) W) := by
  have cL := fun (W1 : World) (hb : Below W.heap.size W W1) (a b : Int) => along_any W1 A k fs a b (hA.below hb) hf hx
  go_enter Try.func44, Try.ntmps44
  go_wp2
  go_loopw [5] (fun fv wr => ∃ f : Nat, fv = .int .i64 (f : Int) ∧ f ≤ fs.length ∧ (∀ j (h : j < fs.length), j < f → GF V fs fs[j]) ∧ Below W.heap.size W wr) (fun fv _ => fs.length - (intOf fv).toNat)
  case atStart => exact ⟨0, rfl, by omega, fun j h h2 => absurd h2 (by omega), Below.refl _ _⟩
  case round =>
    obtain ⟨f, rfl, hfl, hok, hbr⟩ := hrel
    by_cases hlt : f < fs.length
    · obtain ⟨bb, off, B, m, rfl, hbl, hc, hIL⟩ := hA.at_ f hlt
      have hxl := hx _ (List.getElem_mem hlt)
      have hbad := fun (h : GoodD V fs) => h _ (List.getElem_mem hlt)
      have hgo : GF V fs fs[f] → ∀ j (h : j < fs.length), j < f + 1 → GF V fs fs[j] := fun h j hj hj2 => by
        rcases Nat.lt_or_ge j f with q | q
        · exact hok j hj q
        · obtain rfl : j = f := by omega
          exact h
      generalize fs[f] = x at *
      clear hok
      replace hbad := Lib.hid hbad
      replace hgo := Lib.hid hgo
      have q0 : (0 : Int) ≤ (f : Int) := by omega
      have q1 : (f : Int) < (fs.length : Int) := by omega
      have hcr := (hbr.cell (p := ⟨bb, off + f, none⟩) hbl).trans hc
      have hblr := Nat.lt_of_lt_of_le hbl hbr.size
      by_cases d3 : (x.length : Int) < 3
      · go_wp2
        go_ret
        exact ⟨false, rfl, ⟨fun h => (by cases h), fun h => absurd (hbad.out h).three (by omega)⟩, by first | assumption | (repeat (first | with_reducible exact Below.refl _ _ | with_reducible assumption | with_reducible refine bel_then ?_ _ | with_reducible refine bel_grow ?_ _ | with_reducible refine bel_alloc ?_ _ | with_reducible refine bel_drew ?_ | with_reducible refine bel_drewN ?_ _))⟩
      · go_wp2
        clear hcr hblr
        go_loopw [7] (fun iv wq => ∃ i : Nat, iv = .int .i64 (i : Int) ∧ i ≤ x.length ∧ (∀ j, j < i → C1 V x j) ∧ Below W.heap.size W wq) (fun iv _ => x.length - (intOf iv).toNat)
        case atStart => exact ⟨0, rfl, by omega, fun j h => absurd h (by omega), hbr⟩
        case round =>
          obtain ⟨i, rfl, hil, hone, hbq⟩ := hrel
          clear hbr
          have hcr := (hbq.cell (p := ⟨bb, off + f, none⟩) hbl).trans hc
          have hblr := Nat.lt_of_lt_of_le hbl hbq.size
          by_cases hilt : i < x.length
          · obtain ⟨b2, off2, rfl, hb2, hc2⟩ := (hIL.below hbq) (by omega)
            have hb2W := hIL (by omega)
            obtain ⟨b3, off3, e3, hb3, hc3⟩ := hb2W
            cases e3
            have g1 := hc2 i hilt
            have e1 := getD_at hilt
            have k2 : (0 : Int) ≤ (i : Int) := by omega
            have k3 : (i : Int) < (x.length : Int) := by omega
            have hC : ∀ (h0 : 0 ≤ x.getD i 0) (h1 : x.getD i 0 < V) (h2 : ∀ k, k < i → x.getD i 0 ≠ x.getD k 0), ∀ j, j < i + 1 → C1 V x j := fun h0 h1 h2 j hj => by
              rcases Nat.lt_or_ge j i with q | q
              · exact hone j q
              · obtain rfl : j = i := by omega
                exact ⟨h0, h1, h2⟩
            have hB := fun (h : GoodD V fs) => (hbad.out h).one i hilt
            have hg3 := hc3 i hilt
            rw [e1] at hC
            unfold C1 at hB
            rw [e1] at hB
            clear e1 hc2 hone
            generalize x[i] = xa at *
            replace hC := Lib.hid hC
            replace hB := Lib.hid hB
            by_cases d1 : xa < 0
            · go_wp2
              go_ret
              exact ⟨false, rfl, ⟨fun h => (by cases h), fun h => absurd (hB.out h).1 (by omega)⟩, by first | assumption | (repeat (first | with_reducible exact Below.refl _ _ | with_reducible assumption | with_reducible refine bel_then ?_ _ | with_reducible refine bel_grow ?_ _ | with_reducible refine bel_alloc ?_ _ | with_reducible refine bel_drew ?_ | with_reducible refine bel_drewN ?_ _))⟩
            · by_cases d2 : V ≤ xa
              · go_wp2
                go_ret
                exact ⟨false, rfl, ⟨fun h => (by cases h), fun h => absurd (hB.out h).2.1 (by omega)⟩, by first | assumption | (repeat (first | with_reducible exact Below.refl _ _ | with_reducible assumption | with_reducible refine bel_then ?_ _ | with_reducible refine bel_grow ?_ _ | with_reducible refine bel_alloc ?_ _ | with_reducible refine bel_drew ?_ | with_reducible refine bel_drewN ?_ _))⟩
              · go_wp2
                clear hcr hblr g1
                go_loopw [8] (fun kv wp => ∃ q : Nat, kv = .int .i64 (q : Int) ∧ q ≤ i ∧ (∀ j, j < q → xa ≠ x.getD j 0) ∧ Below W.heap.size W wp) (fun kv _ => i - (intOf kv).toNat)
                case atStart => exact ⟨0, rfl, by omega, fun j h => absurd h (by omega), hbq⟩
                case round =>
                  obtain ⟨q, rfl, hql, hne, hbp⟩ := hrel
                  clear hbq
                  have hbq := hbp
                  clear hbp
                  have hcr := (hbq.cell (p := ⟨bb, off + f, none⟩) hbl).trans hc
                  have hblr := Nat.lt_of_lt_of_le hbl hbq.size
                  by_cases hqlt : q < i
                  · have hqx : q < x.length := by omega
                    have g1 := (hbq.cell (p := ⟨b2, off2 + i, none⟩) hb3).trans hg3
                    have g2 := (hbq.cell (p := ⟨b2, off2 + q, none⟩) hb3).trans (hc3 q hqx)
                    have e2 := getD_at hqx
                    have hbb := Nat.lt_of_lt_of_le hb3 hbq.size
                    have hB2 := fun (h : GoodD V fs) => (hB.out h).2.2 q hqlt
                    have hne2 : xa ≠ x.getD q 0 → ∀ j, j < q + 1 → xa ≠ x.getD j 0 := fun h j hj => by
                      rcases Nat.lt_or_ge j q with q9 | q9
                      · exact hne j q9
                      · obtain rfl : j = q := by omega
                        exact h
                    rw [e2] at hB2 hne2
                    clear e2
                    generalize x[q] = xb at *
                    replace hB2 := Lib.hid hB2
                    replace hne2 := Lib.hid hne2
                    replace hne := Lib.hid hne
                    have k4 : (0 : Int) ≤ (q : Int) := by omega
                    have k5 : (q : Int) < (x.length : Int) := by omega
                    have k6 : (q : Int) < (i : Int) := by omega
                    by_cases d4 : xa = xb
                    · subst d4
                      go_wp2
                      refine wp_region_grow (by kernel_rfl) (by kernel_rfl) ?_
                      repeat (go_big_quiet_step ((fail)))
                      refine wpQuiet_nil ?_
                      rintro _ ⟨xg, rfl⟩
                      have hb9 := bel_grow hbq xg
                      generalize grow wr xg = W9 at *
                      go_wp2
                      go_ret
                      exact ⟨false, rfl, ⟨fun h => (by cases h), fun h => absurd rfl (hB2.out h)⟩, by first | assumption | (repeat (first | with_reducible exact Below.refl _ _ | with_reducible assumption | with_reducible refine bel_then ?_ _ | with_reducible refine bel_grow ?_ _ | with_reducible refine bel_alloc ?_ _ | with_reducible refine bel_drew ?_ | with_reducible refine bel_drewN ?_ _))⟩
                    · have d4b : (xa == xb) = false := by simp [d4]
                      go_wp2
                      refine wp_region_grow (by kernel_rfl) (by kernel_rfl) ?_
                      repeat (go_big_quiet_step ((fail)))
                      refine wpQuiet_nil ?_
                      rintro _ ⟨xg, rfl⟩
                      have hb9 := bel_grow hbq xg
                      generalize grow wr xg = W9 at *
                      go_wp2
                      go_roundw
                      case rel => exact ⟨q + 1, by go_num, by omega, hne2.out d4, by first | assumption | (repeat (first | with_reducible exact Below.refl _ _ | with_reducible assumption | with_reducible refine bel_then ?_ _ | with_reducible refine bel_grow ?_ _ | with_reducible refine bel_alloc ?_ _ | with_reducible refine bel_drew ?_ | with_reducible refine bel_drewN ?_ _))⟩
                      case measure => simp [intOf]; omega
                  · obtain rfl : q = i := by omega
                    go_wp2
                    go_roundw
                    case rel => exact ⟨q + 1, by go_num, by omega, hC.out (by omega) (by omega) hne, by first | assumption | (repeat (first | with_reducible exact Below.refl _ _ | with_reducible assumption | with_reducible refine bel_then ?_ _ | with_reducible refine bel_grow ?_ _ | with_reducible refine bel_alloc ?_ _ | with_reducible refine bel_drew ?_ | with_reducible refine bel_drewN ?_ _))⟩
                    case measure => simp [intOf]; omega
          · obtain rfl : i = x.length := by omega
            replace hone := Lib.hid hone
            go_wp2
            clear hcr hblr
            go_loopw [9] (fun iv wp => ∃ i : Nat, iv = .int .i64 (i : Int) ∧ i ≤ x.length ∧ (∀ j, j < i → 0 ≤ alongV fs (x.getD j 0) (x.getD ((j + 1) % x.length) 0)) ∧ Below W.heap.size W wp) (fun iv _ => x.length - (intOf iv).toNat)
            case atStart => exact ⟨0, rfl, by omega, fun j h => absurd h (by omega), hbq⟩
            case round =>
              obtain ⟨i, rfl, hil, hal, hbp⟩ := hrel
              clear hbq
              have hbq := hbp
              clear hbp
              have hcr := (hbq.cell (p := ⟨bb, off + f, none⟩) hbl).trans hc
              have hblr := Nat.lt_of_lt_of_le hbl hbq.size
              by_cases hilt : i < x.length
              · obtain ⟨b2, off2, rfl, hb2, hc2⟩ := (hIL.below hbq) (by omega)
                have hm : (i + 1) % x.length < x.length := Nat.mod_lt _ (by omega)
                have g1 := hc2 i hilt
                have g2 := hc2 ((i + 1) % x.length) hm
                have e1 := getD_at hilt
                have e2 := getD_at hm
                have hB2 := fun (h : GoodD V fs) => (hbad.out h).goes i hilt
                have hal2 : 0 ≤ alongV fs (x.getD i 0) (x.getD ((i + 1) % x.length) 0) → ∀ j, j < i + 1 → 0 ≤ alongV fs (x.getD j 0) (x.getD ((j + 1) % x.length) 0) := fun h j hj => by
                  rcases Nat.lt_or_ge j i with q9 | q9
                  · exact hal j q9
                  · obtain rfl : j = i := by omega
                    exact h
                rw [e1, e2] at hB2 hal2
                clear e1 e2 hc2 hal
                generalize x[i] = xa at *
                generalize x[(i + 1) % x.length] = xb at *
                have hremt : ((i : Int) + 1).tmod (x.length : Int) = (((i + 1) % x.length : Nat) : Int) := by
                  rw [Int.tmod_eq_emod_of_nonneg (by omega)]; simp
                have k2 : (0 : Int) ≤ (i : Int) := by omega
                have k3 : (i : Int) < (x.length : Int) := by omega
                have k4 : (0 : Int) ≤ (((i + 1) % x.length : Nat) : Int) := by omega
                have k5 : (((i + 1) % x.length : Nat) : Int) < (x.length : Int) := by omega
                generalize hmm : (i + 1) % x.length = mm at *
                replace hmm := Lib.hid hmm
                have cQ := fun (y : More) => cL (grow wr y) (bel_grow hbq y) xa xb
                generalize alongV fs xa xb = av at *
                replace hB2 := Lib.hid hB2
                replace hal2 := Lib.hid hal2
                by_cases d4 : av < 0
                · go_wp2
                  refine wp_region_grow (by kernel_rfl) (by kernel_rfl) ?_
                  repeat (go_big_quiet_step ((first | exact calls_quiet _ (cQ _) | exact calls_quiet2 _ _ (cQ _))))
                  refine wpQuiet_nil ?_
                  rintro _ ⟨xg, rfl⟩
                  have hb9 := bel_grow hbq xg
                  generalize grow wr xg = W9 at *
                  go_wp2
                  go_ret
                  exact ⟨false, rfl, ⟨fun h => (by cases h), fun h => absurd (hB2.out h) (by omega)⟩, by first | assumption | (repeat (first | with_reducible exact Below.refl _ _ | with_reducible assumption | with_reducible refine bel_then ?_ _ | with_reducible refine bel_grow ?_ _ | with_reducible refine bel_alloc ?_ _ | with_reducible refine bel_drew ?_ | with_reducible refine bel_drewN ?_ _))⟩
                · go_wp2
                  refine wp_region_grow (by kernel_rfl) (by kernel_rfl) ?_
                  repeat (go_big_quiet_step ((first | exact calls_quiet _ (cQ _) | exact calls_quiet2 _ _ (cQ _))))
                  refine wpQuiet_nil ?_
                  rintro _ ⟨xg, rfl⟩
                  have hb9 := bel_grow hbq xg
                  generalize grow wr xg = W9 at *
                  go_wp2
                  go_roundw
                  case rel => exact ⟨i + 1, by go_num, by omega, hal2.out (by omega), by first | assumption | (repeat (first | with_reducible exact Below.refl _ _ | with_reducible assumption | with_reducible refine bel_then ?_ _ | with_reducible refine bel_grow ?_ _ | with_reducible refine bel_alloc ?_ _ | with_reducible refine bel_drew ?_ | with_reducible refine bel_drewN ?_ _))⟩
                  case measure => simp [intOf]; omega
              · obtain rfl : i = x.length := by omega
                replace hal := Lib.hid hal
                go_wp2
                go_roundw
                case rel => exact ⟨f + 1, by go_num, by omega, hgo.out ⟨by omega, hone.out, hal.out⟩, by first | assumption | (repeat (first | with_reducible exact Below.refl _ _ | with_reducible assumption | with_reducible refine bel_then ?_ _ | with_reducible refine bel_grow ?_ _ | with_reducible refine bel_alloc ?_ _ | with_reducible refine bel_drew ?_ | with_reducible refine bel_drewN ?_ _))⟩
                case measure => simp [intOf]; omega
    · obtain rfl : f = fs.length := by omega
      replace hok := Lib.hid hok
      go_wp2
      go_ret
      exact ⟨true, rfl, ⟨fun _ x hx => by
        obtain ⟨j, hj, rfl⟩ := List.mem_iff_getElem.mp hx
        exact hok.out j hj hj, fun _ => rfl⟩, hbr⟩
end Go.Proofs.Ytbehobojgeganaa
