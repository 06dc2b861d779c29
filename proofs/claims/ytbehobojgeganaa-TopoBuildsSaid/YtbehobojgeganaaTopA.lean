/- What laws on surfaces ask ahead: WeighCage, great, Edged. -/
import Derived.Test.YtbehobojgeganaaTop9
namespace Go.Proofs.Ytbehobojgeganaa
open Go.RowKit
set_option linter.unusedVariables false
set_option linter.unusedSimpArgs false
set_option linter.unnecessarySimpa false
set_option maxRecDepth 100000


def tot (fs : List (List Int)) : Nat := (fs.map List.length).sum
theorem tot_take (fs : List (List Int)) (i : Nat) (h : i < fs.length) : tot (fs.take (i + 1)) = tot (fs.take i) + fs[i].length := by
  rw [List.take_succ_eq_append_getElem h]
  simp only [tot, List.map_append, List.sum_append, List.map_cons, List.map_nil, List.sum_cons, List.sum_nil]; omega
theorem waysL_len : ∀ (fs : List (List Int)) (k : Nat), (waysL k fs).length = tot fs
  | [], _ => rfl
  | x :: r, k => by rw [waysL, List.length_append, waysF_length, waysL_len r (k + 1)]; simp [tot]
set_option maxHeartbeats 2000000 in
theorem weigh_any (W : World) (A1 A2 A3 : Option Addr) (n1 n3 c1 c2 c3 most : Nat) (fs : List (List Int)) (hA : FL W A2 fs) (hm : most < 1048576) (h1 : n1 < 1099511627776000) (h2 : fs.length < 1099511627776000) (h3 : n3 < 1099511627776000) (hx : ∀ x ∈ fs, x.length < 1099511627776000) :
    Calls Try.prog 38 #[.agg #[.slice A1 n1 c1, .slice A2 fs.length c2, .slice A3 n3 c3], .int .i64 (most : Int)] W fun e W' => ∃ n : Nat, e = .returned (.int .i64 (n : Int)) ∧ Below W.heap.size W W' ∧ (most < n ∨ (n ≤ most ∧ n = n1 + n3 + fs.length + tot fs)) := by
  have hb0 : Below W.heap.size W (W.alloc (.cells #[.slice A1 n1 c1, .slice A2 fs.length c2, .slice A3 n3 c3] 48)) := bel_alloc (Below.refl _ _) _
  have hbx : Blk (W.alloc (.cells #[.slice A1 n1 c1, .slice A2 fs.length c2, .slice A3 n3 c3] 48)) W.heap.size 48 #[.slice A1 n1 c1, .slice A2 fs.length c2, .slice A3 n3 c3] := Blk.new _ _ _ _ rfl
  go_enter Try.func38, Try.ntmps38
  go_upto_region 1 with (fail)
  generalize W.alloc (.cells #[.slice A1 n1 c1, .slice A2 fs.length c2, .slice A3 n3 c3] 48) = W1 at *
  have x0 : W1.cell? ⟨W.heap.size, 0, none⟩ = some (.slice A1 n1 c1) := hbx.cell 0
  have x1 : W1.cell? ⟨W.heap.size, 1, none⟩ = some (.slice A2 fs.length c2) := hbx.cell 1
  have x2 : W1.cell? ⟨W.heap.size, 2, none⟩ = some (.slice A3 n3 c3) := hbx.cell 2
  have xl := hbx.lt
  by_cases d1 : (most : Int) < (n1 : Int)
  · go_wp2
    go_ret
    exact ⟨most + 1, by simp, hb0, .inl (by omega)⟩
  · by_cases d2 : (most : Int) < (n3 : Int)
    · go_wp2
      go_ret
      exact ⟨most + 1, by simp, hb0, .inl (by omega)⟩
    · by_cases d3 : (most : Int) < (fs.length : Int)
      · go_wp2
        go_ret
        exact ⟨most + 1, by simp, hb0, .inl (by omega)⟩
      · go_wp2
        go_loopw [5, 6] (fun nv i wr => wr = W1 ∧ ∃ j n : Nat, i = .int .i64 (j : Int) ∧ j ≤ fs.length ∧ nv = .int .i64 (n : Int) ∧ n = n1 + n3 + fs.length + tot (fs.take j) ∧ n < 1200000000000000) (fun _ i _ => fs.length - (intOf i).toNat)
        case atStart => exact ⟨rfl, 0, n1 + n3 + fs.length, rfl, by omega, by simp, by simp [tot], by omega⟩
        case round =>
          obtain ⟨rfl, j, n, rfl, hj, rfl, hn, hnl⟩ := hrel
          by_cases hlt : j < fs.length
          · obtain ⟨b, off, B, m, rfl, hbl, hc, _⟩ := (hA.below hb0).at_ j hlt
            have hxl := hx _ (List.getElem_mem hlt)
            have htk := tot_take fs j hlt
            generalize fs[j] = x at *
            have q0 : (0 : Int) ≤ (j : Int) := by omega
            have q1 : (j : Int) < (fs.length : Int) := by omega
            replace hn := Lib.hid hn
            replace htk := Lib.hid htk
            by_cases d4 : (n : Int) ≤ (most : Int)
            · go_wp2
              go_roundw
              case rel => exact ⟨trivial, j + 1, n + x.length, by go_num, by omega, by simp, by rw [htk.out]; have := hn.out; omega, by omega⟩
              case measure => simp [intOf]; omega
            · go_wp2
              go_ret
              exact ⟨n, rfl, hb0, .inl (by omega)⟩
          · obtain rfl : j = fs.length := by omega
            rw [List.take_length] at hn
            replace hn := Lib.hid hn
            go_wp2
            go_ret
            exact ⟨n, rfl, hb0, by have := hn.out; omega⟩
set_option maxHeartbeats 1000000 in
theorem great_any (W : World) (V : Int) (k : Nat) (fs : List (List Int)) (A : Option Addr) (hA : FL W A fs) (h2 : fs.length < 1099511627776000) (hx : ∀ x ∈ fs, x.length < 1099511627776000) :
    Calls Try.prog 15 #[.int .i64 V, .slice A fs.length k] W fun e W' => ∃ b, e = .returned (.bool b) ∧ Below W.heap.size W W' ∧ (b = false → V ≤ 60 ∧ fs.length + tot fs ≤ 300) := by
  have cW := fun (W1 : World) (hb : Below W.heap.size W W1) => weigh_any W1 none A none 0 0 0 k 0 300 fs (hA.below hb) (by omega) (by omega) h2 (by omega) hx
  go_enter Try.func15, Try.ntmps15
  by_cases d1 : (60 : Int) < V
  · go_wp2
    go_ret
    exact ⟨true, rfl, by repeat (first | with_reducible exact Below.refl _ _ | with_reducible assumption | with_reducible refine bel_then ?_ _ | with_reducible refine bel_grow ?_ _ | with_reducible refine bel_alloc ?_ _ | with_reducible refine bel_drew ?_ | with_reducible refine bel_drewN ?_ _ | with_reducible refine bel_set ?_ (by simp) _ | with_reducible refine bel_setRow ?_ (by first | simp | (simp only [grow_size]; omega)) _), fun h => by cases h⟩
  · go_wp2_with (first | (go_at_call 38; (refine (cW _ (by repeat (first | with_reducible exact Below.refl _ _ | with_reducible assumption | with_reducible refine bel_then ?_ _ | with_reducible refine bel_grow ?_ _ | with_reducible refine bel_alloc ?_ _ | with_reducible refine bel_drew ?_ | with_reducible refine bel_drewN ?_ _ | with_reducible refine bel_set ?_ (by simp) _ | with_reducible refine bel_setRow ?_ (by first | simp | (simp only [grow_size]; omega)) _))).mono ?_); rintro e W1 ⟨n, rfl, hb1, hn⟩) | fail)
    go_ret
    refine ⟨decide ((300 : Int) < (n : Int)), by simp, by first | exact hb1 | exact bel_trans (by repeat (first | with_reducible exact Below.refl _ _ | with_reducible assumption | with_reducible refine bel_then ?_ _ | with_reducible refine bel_grow ?_ _ | with_reducible refine bel_alloc ?_ _ | with_reducible refine bel_drew ?_ | with_reducible refine bel_drewN ?_ _ | with_reducible refine bel_set ?_ (by simp) _ | with_reducible refine bel_setRow ?_ (by first | simp | (simp only [grow_size]; omega)) _)) hb1, fun h => ?_⟩
    simp at h
    omega


def edgedB (es : List Ed) (i : Int) : Bool := decide (0 ≤ i) && (match es[i.toNat]? with | some e => (e.f == -1) != (e.g == -1) | none => false)
set_option maxHeartbeats 2000000 in
theorem edged_any (W : World) (A1 A2 A3 : Option Addr) (n2 n3 c1 c2 c3 : Nat) (es : List Ed) (i : Int) (hE : EL W A1 es) :
    Calls Try.prog 23 #[.agg #[.slice A1 es.length c1, .slice A2 n2 c2, .slice A3 n3 c3], .int .i64 i] W fun e W' => e = .returned (.bool (edgedB es i)) ∧ Below W.heap.size W W' := by
  have hb0 : Below W.heap.size W (W.alloc (.cells #[.slice A1 es.length c1, .slice A2 n2 c2, .slice A3 n3 c3] 29)) := bel_alloc (Below.refl _ _) _
  have hbx : Blk (W.alloc (.cells #[.slice A1 es.length c1, .slice A2 n2 c2, .slice A3 n3 c3] 29)) W.heap.size 29 #[.slice A1 es.length c1, .slice A2 n2 c2, .slice A3 n3 c3] := Blk.new _ _ _ _ rfl
  go_enter Try.func23, Try.ntmps23
  go_wp2_with fail
  generalize W.alloc (.cells #[.slice A1 es.length c1, .slice A2 n2 c2, .slice A3 n3 c3] 29) = W1 at *
  have x0 : W1.cell? ⟨W.heap.size, 0, none⟩ = some (.slice A1 es.length c1) := hbx.cell 0
  have xl := hbx.lt
  by_cases d0 : (0 : Int) ≤ i
  · obtain ⟨j, rfl⟩ := Int.eq_ofNat_of_zero_le d0
    by_cases d1 : j < es.length
    · have d1i : (j : Int) < (es.length : Int) := by omega
      obtain ⟨b, off, rfl, hbl, hc⟩ := (hE.below hb0) (by omega)
      obtain ⟨_, _, hc2, hc3⟩ := hc j d1
      have hed : edgedB es (j : Int) = ((es[j].f == -1) != (es[j].g == -1)) := by simp [edgedB, d1]
      replace hed := Lib.hid hed
      clear hc hE hbx
      generalize hef : es[j].f = ef at *
      generalize heg : es[j].g = eg at *
      clear hef heg
      refine wp_region_grow (by kernel_rfl) (by kernel_rfl) ?_
      repeat (go_big_quiet_step ((fail)))
      refine wpQuiet_nil ?_
      rintro _ ⟨xg, rfl⟩
      have hb9 := bel_grow hb0 xg
      generalize grow W1 xg = W9 at *
      go_wp2
      go_ret
      exact ⟨by rw [hed.out]; try rfl, hb9⟩
    · have d1i : ¬(j : Int) < (es.length : Int) := by omega
      have hed : edgedB es (j : Int) = false := by simp [edgedB, List.getElem?_eq_none (Nat.le_of_not_lt d1)]
      replace hed := Lib.hid hed
      refine wp_region_grow (by kernel_rfl) (by kernel_rfl) ?_
      repeat (go_big_quiet_step ((fail)))
      refine wpQuiet_nil ?_
      rintro _ ⟨xg, rfl⟩
      have hb9 := bel_grow hb0 xg
      generalize grow W1 xg = W9 at *
      go_wp2
      go_ret
      exact ⟨by rw [hed.out]; try rfl, hb9⟩
  · have hed : edgedB es i = false := by simp [edgedB, d0]
    replace hed := Lib.hid hed
    refine wp_region_grow (by kernel_rfl) (by kernel_rfl) ?_
    repeat (go_big_quiet_step ((fail)))
    refine wpQuiet_nil ?_
    rintro _ ⟨xg, rfl⟩
    have hb9 := bel_grow hb0 xg
    generalize grow W1 xg = W9 at *
    go_wp2
    go_ret
    exact ⟨by rw [hed.out]; try rfl, hb9⟩
end Go.Proofs.Ytbehobojgeganaa