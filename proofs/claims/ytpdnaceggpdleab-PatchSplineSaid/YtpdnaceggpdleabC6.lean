/- What laws on surfaces ask ahead: WeighCage, great, Edged. A region in any order: reads and quiet calls, one block made, one store into it, and then a forced tail; operations that only read what the store leaves alone may fall behind it. No program is imported. Contracts of sums and products within bounds, and of the side on which a line passes an edge. Contracts of the bounds of a line and of points. Contracts of Normal, of the side of all three edges, and of Side. Contracts of the document's own Bound, of copies and of sameness. -/
import Derived.Deep.WholeRow
import Derived.Test.YtpdnaceggpdleabShelf
import Derived.Test.YtpdnaceggpdleabC1
import Derived.Test.YtpdnaceggpdleabC2
import Derived.Test.YtpdnaceggpdleabC4
import Derived.Test.YtpdnaceggpdleabC5
namespace Go.Proofs.Ytpdnaceggpdleab
open Go.RowKit
set_option linter.unusedVariables false
set_option linter.unusedSimpArgs false
set_option linter.unnecessarySimpa false
set_option maxRecDepth 100000


def tot (fs : List (List Int)) : Nat := (fs.map List.length).sum
theorem tot_take (fs : List (List Int)) (i : Nat) (h : i < fs.length) : tot (fs.take (i + 1)) = tot (fs.take i) + fs[i].length := by
  rw [List.take_succ_eq_append_getElem h]
  simp only [tot, List.map_append, List.sum_append, List.map_cons, List.map_nil, List.sum_cons, List.sum_nil]; omega
theorem waysL_len : ∀ (fs : List (List Int)) (k : Nat), (waysL k fs).length = tot fs
  | [], _ => rfl
  | x :: r, k => by rw [waysL, List.length_append, waysF_length, waysL_len r (k + 1)]; simp [tot]
set_option maxHeartbeats 2000000 in
theorem weigh_any (W : World) (A1 A2 A3 : Option Addr) (n1 n3 c1 c2 c3 most : Nat) (fs : List (List Int)) (hA : FL W A2 fs) (hm : most < 1048576) (h1 : n1 < 1099511627776000) (h2 : fs.length < 1099511627776000) (h3 : n3 < 1099511627776000) (hx : ∀ x ∈ fs, x.length < 1099511627776000) :
    Calls Try.prog 36 #[.agg #[.slice A1 n1 c1, .slice A2 fs.length c2, .slice A3 n3 c3], .int .i64 (most : Int)] W fun e W' => ∃ n : Nat, e = .returned (.int .i64 (n : Int)) ∧ Below W.heap.size W W' ∧ (most < n ∨ (n ≤ most ∧ n = n1 + n3 + fs.length + tot fs)) := by
  have hb0 : Below W.heap.size W (W.alloc (.cells #[.slice A1 n1 c1, .slice A2 fs.length c2, .slice A3 n3 c3] 27)) := bel_alloc (Below.refl _ _) _
  have hbx : Blk (W.alloc (.cells #[.slice A1 n1 c1, .slice A2 fs.length c2, .slice A3 n3 c3] 27)) W.heap.size 27 #[.slice A1 n1 c1, .slice A2 fs.length c2, .slice A3 n3 c3] := Blk.new _ _ _ _ rfl
  go_enter Try.func36, Try.ntmps36
  go_upto_region 1 with (fail)
  generalize W.alloc (.cells #[.slice A1 n1 c1, .slice A2 fs.length c2, .slice A3 n3 c3] 27) = W1 at *
  have x0 : W1.cell? ⟨W.heap.size, 0, none⟩ = some (.slice A1 n1 c1) := hbx.cell 0
  have x1 : W1.cell? ⟨W.heap.size, 1, none⟩ = some (.slice A2 fs.length c2) := hbx.cell 1
  have x2 : W1.cell? ⟨W.heap.size, 2, none⟩ = some (.slice A3 n3 c3) := hbx.cell 2
  have xl := hbx.lt
  by_cases d1 : (most : Int) < (n1 : Int)
  · go_wp2
    go_ret
    exact ⟨most + 1, by simp, hb0, .inl (by omega)⟩
  · by_cases d2 : (most : Int) < (n3 : Int)
    · go_wp2
      go_ret
      exact ⟨most + 1, by simp, hb0, .inl (by omega)⟩
    · by_cases d3 : (most : Int) < (fs.length : Int)
      · go_wp2
        go_ret
        exact ⟨most + 1, by simp, hb0, .inl (by omega)⟩
      · go_wp2
        go_loopw [5, 6] (fun nv i wr => wr = W1 ∧ ∃ j n : Nat, i = .int .i64 (j : Int) ∧ j ≤ fs.length ∧ nv = .int .i64 (n : Int) ∧ n = n1 + n3 + fs.length + tot (fs.take j) ∧ n < 1200000000000000) (fun _ i _ => fs.length - (intOf i).toNat)
        case atStart => exact ⟨rfl, 0, n1 + n3 + fs.length, rfl, by omega, by simp, by simp [tot], by omega⟩
        case round =>
          obtain ⟨rfl, j, n, rfl, hj, rfl, hn, hnl⟩ := hrel
          by_cases hlt : j < fs.length
          · obtain ⟨b, off, B, m, rfl, hbl, hc, _⟩ := (hA.below hb0).at_ j hlt
            have hxl := hx _ (List.getElem_mem hlt)
            have htk := tot_take fs j hlt
            generalize fs[j] = x at *
            have q0 : (0 : Int) ≤ (j : Int) := by omega
            have q1 : (j : Int) < (fs.length : Int) := by omega
            replace hn := Lib.hid hn
            replace htk := Lib.hid htk
            by_cases d4 : (n : Int) ≤ (most : Int)
            · go_wp2
              go_roundw
              case rel => exact ⟨trivial, j + 1, n + x.length, by go_num, by omega, by simp, by rw [htk.out]; have := hn.out; omega, by omega⟩
              case measure => simp [intOf]; omega
            · go_wp2
              go_ret
              exact ⟨n, rfl, hb0, .inl (by omega)⟩
          · obtain rfl : j = fs.length := by omega
            rw [List.take_length] at hn
            replace hn := Lib.hid hn
            go_wp2
            go_ret
            exact ⟨n, rfl, hb0, by have := hn.out; omega⟩
def edgedB (es : List Ed) (i : Int) : Bool := decide (0 ≤ i) && (match es[i.toNat]? with | some e => (e.f == -1) != (e.g == -1) | none => false)
set_option maxHeartbeats 2000000 in
theorem edged_any (W : World) (A1 A2 A3 : Option Addr) (n2 n3 c1 c2 c3 : Nat) (es : List Ed) (i : Int) (hE : EL W A1 es) :
    Calls Try.prog 49 #[.agg #[.slice A1 es.length c1, .slice A2 n2 c2, .slice A3 n3 c3], .int .i64 i] W fun e W' => e = .returned (.bool (edgedB es i)) ∧ Below W.heap.size W W' := by
  have hb0 : Below W.heap.size W (W.alloc (.cells #[.slice A1 es.length c1, .slice A2 n2 c2, .slice A3 n3 c3] 56)) := bel_alloc (Below.refl _ _) _
  have hbx : Blk (W.alloc (.cells #[.slice A1 es.length c1, .slice A2 n2 c2, .slice A3 n3 c3] 56)) W.heap.size 56 #[.slice A1 es.length c1, .slice A2 n2 c2, .slice A3 n3 c3] := Blk.new _ _ _ _ rfl
  go_enter Try.func49, Try.ntmps49
  go_wp2_with fail
  generalize W.alloc (.cells #[.slice A1 es.length c1, .slice A2 n2 c2, .slice A3 n3 c3] 56) = W1 at *
  have x0 : W1.cell? ⟨W.heap.size, 0, none⟩ = some (.slice A1 es.length c1) := hbx.cell 0
  have xl := hbx.lt
  by_cases d0 : (0 : Int) ≤ i
  · obtain ⟨j, rfl⟩ := Int.eq_ofNat_of_zero_le d0
    by_cases d1 : j < es.length
    · have d1i : (j : Int) < (es.length : Int) := by omega
      obtain ⟨b, off, rfl, hbl, hc⟩ := (hE.below hb0) (by omega)
      obtain ⟨_, _, hc2, hc3⟩ := hc j d1
      have hed : edgedB es (j : Int) = ((es[j].f == -1) != (es[j].g == -1)) := by simp [edgedB, d1]
      replace hed := Lib.hid hed
      clear hc hE hbx
      generalize hef : es[j].f = ef at *
      generalize heg : es[j].g = eg at *
      clear hef heg
      refine wp_region_grow (by kernel_rfl) (by kernel_rfl) ?_
      repeat (go_big_quiet_step ((fail)))
      refine wpQuiet_nil ?_
      rintro _ ⟨xg, rfl⟩
      have hb9 := bel_grow hb0 xg
      generalize grow W1 xg = W9 at *
      go_wp2
      go_ret
      exact ⟨by rw [hed.out]; try rfl, hb9⟩
    · have d1i : ¬(j : Int) < (es.length : Int) := by omega
      have hed : edgedB es (j : Int) = false := by simp [edgedB, List.getElem?_eq_none (Nat.le_of_not_lt d1)]
      replace hed := Lib.hid hed
      refine wp_region_grow (by kernel_rfl) (by kernel_rfl) ?_
      repeat (go_big_quiet_step ((fail)))
      refine wpQuiet_nil ?_
      rintro _ ⟨xg, rfl⟩
      have hb9 := bel_grow hb0 xg
      generalize grow W1 xg = W9 at *
      go_wp2
      go_ret
      exact ⟨by rw [hed.out]; try rfl, hb9⟩
  · have hed : edgedB es i = false := by simp [edgedB, d0]
    replace hed := Lib.hid hed
    refine wp_region_grow (by kernel_rfl) (by kernel_rfl) ?_
    repeat (go_big_quiet_step ((fail)))
    refine wpQuiet_nil ?_
    rintro _ ⟨xg, rfl⟩
    have hb9 := bel_grow hb0 xg
    generalize grow W1 xg = W9 at *
    go_wp2
    go_ret
    exact ⟨by rw [hed.out]; try rfl, hb9⟩
end Go.Proofs.Ytpdnaceggpdleab
namespace Go.Proofs.Ytpdnaceggpdleab
open Go.RowKit
set_option linter.unusedVariables false
set_option linter.unusedSimpArgs false
section
variable {P : Program} {ops : Array Oper} {w : World} {md : Region.Mode}
inductive Ph where
  | no
  | made (x : More)
  | kept (x : More)
def At2 (w : World) (obj obj' : Obj) : Ph → World → Prop
  | .no, u => ∃ x, u = grow w x
  | .made x, u => ∃ y, u = grow ((grow w x).alloc obj) y
  | .kept x, u => ∃ y, u = grow ((grow w x).alloc obj') y
theorem At2.grows {obj obj' : Obj} {s : Ph} {u : World} (h : At2 w obj obj' s u) : ∃ x, u = grow w x := by
  cases s with
  | no => exact h
  | made x =>
    obtain ⟨y, rfl⟩ := h
    exact grow_of (bel_grow (bel_alloc (bel_grow (Below.refl _ _) x) obj) y)
  | kept x =>
    obtain ⟨y, rfl⟩ := h
    exact grow_of (bel_grow (bel_alloc (bel_grow (Below.refl _ _) x) obj') y)
theorem At2.on {obj obj' : Obj} {s : Ph} {u : World} (h : At2 w obj obj' s u) (y : More) : At2 w obj obj' s (grow u y) := by
  cases s with
  | no => obtain ⟨x, rfl⟩ := h; exact ⟨x.then y, rfl⟩
  | made x => obtain ⟨z, rfl⟩ := h; exact ⟨z.then y, rfl⟩
  | kept x => obtain ⟨z, rfl⟩ := h; exact ⟨z.then y, rfl⟩
variable {n N : Nat} {alc : Tmp} {obj obj' : Obj} {L : Ph → Array Bool → Act → Prop}
/-- The store, from wherever the region has come behind the block's making. -/
def StoreAt (P : Program) (o : Oper) (a : Act) (w : World) (x : More) (obj obj' : Obj) : Prop :=
  o.guard = none ∧ o.dst = none ∧ ∀ y : More, ∃ y' : More, ∃ nx, (nx = .skip ∨ nx = .value undef) ∧ (execOp a.eval o).run P (grow ((grow w x).alloc obj) y) = .ok nx (grow ((grow w x).alloc obj') y')
theorem StoreAt.of_same {o : Oper} {a a' : Act} {x : More} (h : StoreAt P o a w x obj obj') (he : execOp a'.eval o = execOp a.eval o) : StoreAt P o a' w x obj obj' := by
  unfold StoreAt at *
  rw [he]
  exact h
end
section
variable {P : Program} {w : World}
end
end Go.Proofs.Ytpdnaceggpdleab
namespace Go.Proofs.Ytpdnaceggpdleab
open Go.RowKit
set_option linter.unusedVariables false
set_option linter.unusedSimpArgs false
theorem alloc_V (a : Act) (o : Oper) (ho : o.op = .alloc 30) (w : World) : (execOp a.eval o).run Try.prog w = .ok (.value (.pointer (some ⟨w.heap.size, 0, none⟩))) (w.alloc (.cells #[.int .i64 0, .int .i64 0, .int .i64 0] 30)) := by
  unfold execOp
  rw [ho]
  kernel_rfl
end Go.Proofs.Ytpdnaceggpdleab
namespace Go.Proofs.Ytpdnaceggpdleab
open Go.RowKit
set_option linter.unusedVariables false
set_option linter.unusedSimpArgs false
/-- May a line be reckoned with? -/
def nz (d : P3) : Bool := !(d.x == 0 && d.y == 0 && d.z == 0)
def lnB (o d : P3) : Bool := nz d && wiB d.x d.y d.z 32768 && wiB o.x o.y o.z 65536
def inB3 (a : P3) : Bool := wiB a.x a.y a.z 65536
end Go.Proofs.Ytpdnaceggpdleab
namespace Go.Proofs.Ytpdnaceggpdleab
open Go.RowKit
set_option linter.unusedVariables false
set_option linter.unusedSimpArgs false
/-- A line and a triangle within their bounds. -/
def bdB (o d a b c : P3) : Bool := lnB o d && (inB3 a && inB3 b && inB3 c)
/-- The side of all three edges; 0, if there is none. -/
def sd3 (s0 s1 s2 : Int) : Int := if s1 = s0 ∧ s2 = s0 then s0 else 0
def allS (o d a b c : P3) : Int := sd3 (pS o d c a) (pS o d a b) (pS o d b c)
end Go.Proofs.Ytpdnaceggpdleab
namespace Go.Proofs.Ytpdnaceggpdleab
open Go.RowKit
set_option linter.unusedVariables false
set_option linter.unusedSimpArgs false

end Go.Proofs.Ytpdnaceggpdleab
