/- Package topo: face, fan; rows of numbers and of faces that are read. The last step of a law's row: it answered true, and all that was there is as it was. No program is imported. Faces that are handed in, opened. Lines against edges and triangles, in whole numbers. No program is imported. Rows of points that are read; cages that are handed in, opened. What holds of a surface's edges and fans: counts at a vertex, counts of sides. No program is imported. -/
import Derived.ProofKit
import Derived.OpenShut
import Derived.Carry
import Derived.Test.YtpdnaceggpdleabC0
import Derived.Test.YtpdnaceggpdleabC1
namespace Go.Proofs.Ytpdnaceggpdleab
open Go.RowKit
set_option linter.unusedVariables false
set_option linter.unusedSimpArgs false
set_option linter.unnecessarySimpa false
set_option maxRecDepth 100000

/-- A row of numbers that lies somewhere. -/
def IL (W : World) (A : Option Addr) (ns : List Int) : Prop := 0 < ns.length → ∃ b off, A = some ⟨b, off, none⟩ ∧ b < W.heap.size ∧ ∀ i (h : i < ns.length), W.cell? ⟨b, off + i, none⟩ = some (.int .i64 ns[i])
theorem IL.below {W W' : World} {A : Option Addr} {ns : List Int} (h : IL W A ns) (hb : Below W.heap.size W W') : IL W' A ns := fun hn => by
  obtain ⟨b, off, e, hl, hc⟩ := h hn
  exact ⟨b, off, e, Nat.lt_of_lt_of_le hl hb.size, fun i hi => (hb.cell (p := ⟨b, _, none⟩) hl).trans (hc i hi)⟩
/-- A row of rows of numbers. -/
def FL (W : World) (A : Option Addr) (fs : List (List Int)) : Prop := 0 < fs.length → ∃ b off, A = some ⟨b, off, none⟩ ∧ b < W.heap.size ∧ ∀ i (h : i < fs.length), ∃ B m, W.cell? ⟨b, off + i, none⟩ = some (.slice B fs[i].length m) ∧ IL W B fs[i]
theorem FL.below {W W' : World} {A : Option Addr} {fs : List (List Int)} (h : FL W A fs) (hb : Below W.heap.size W W') : FL W' A fs := fun hn => by
  obtain ⟨b, off, e, hl, hc⟩ := h hn
  refine ⟨b, off, e, Nat.lt_of_lt_of_le hl hb.size, fun i hi => ?_⟩
  obtain ⟨B, m, h1, h2⟩ := hc i hi
  exact ⟨B, m, (hb.cell (p := ⟨b, _, none⟩) hl).trans h1, h2.below hb⟩
theorem FL.at_ {W : World} {A : Option Addr} {fs : List (List Int)} (h : FL W A fs) (i : Nat) (hi : i < fs.length) : ∃ b off B m, A = some ⟨b, off, none⟩ ∧ b < W.heap.size ∧ W.cell? ⟨b, off + i, none⟩ = some (.slice B fs[i].length m) ∧ IL W B fs[i] := by
  obtain ⟨b, off, e, hl, hc⟩ := h (by omega)
  obtain ⟨B, m, h1, h2⟩ := hc i hi
  exact ⟨b, off, B, m, e, hl, h1, h2⟩
theorem IL.at_ {W : World} {A : Option Addr} {ns : List Int} (h : IL W A ns) (i : Nat) (hi : i < ns.length) : ∃ b off, A = some ⟨b, off, none⟩ ∧ b < W.heap.size ∧ W.cell? ⟨b, off + i, none⟩ = some (.int .i64 ns[i]) := by
  obtain ⟨b, off, e, hl, hc⟩ := h (by omega)
  exact ⟨b, off, e, hl, hc i hi⟩
theorem GoM.below {W W' : World} {B : Nat} {P : List Way} (h : GoM W B P) (hb : Below W.heap.size W W') : GoM W' B P := by
  have hlt := h.lt
  obtain ⟨D, ⟨es, cl, h1, h2⟩, h3⟩ := h
  exact ⟨D, ⟨es, cl, (hb.block B hlt).trans h1, h2⟩, h3⟩
theorem LaM.below {W W' : World} {B : Nat} {P : List Way} (h : LaM W B P) (hb : Below W.heap.size W W') : LaM W' B P := by
  have hlt := h.lt
  obtain ⟨D, ⟨es, cl, h1, h2⟩, h3⟩ := h
  exact ⟨D, ⟨es, cl, (hb.block B hlt).trans h1, h2⟩, h3⟩
/-- A store into one block: all below it stands. -/
theorem bel_turn {a W W' : World} {B : Nat} (h : Below a.heap.size a W) (hg : W.grownBy W' (some B)) (hB : a.heap.size ≤ B) : Below a.heap.size a W' := by
  refine h.trans ⟨hg.os, hg.tape, hg.output, hg.size, fun k hk => hg.block k (Nat.lt_of_lt_of_le hk h.size) (by intro e; cases e; omega)⟩


theorem face_any (W : World) (B : Nat) (P : List Way) (h : GoM W B P) (a b : Int) (ha : i64B a) (hb : i64B b) :
    Calls Try.prog 64 #[.map (some B), .int .i64 a, .int .i64 b] W fun e W' => e = .returned (.int .i64 (faceOf P a b)) ∧ Below W.heap.size W W' := by
  cases hl : look P a b with
  | none =>
    go_enter Try.func64, Try.ntmps64
    go_wp2_with (first | (at_lookup; (refine wpL_look_go _ rfl _ _ rfl B P rfl h a b rfl ha hb ?_)) | fail)
    go_ret
    exact ⟨by simp [faceOf, hl, gF], by repeat (first | with_reducible exact Below.refl _ _ | with_reducible assumption | with_reducible refine bel_then ?_ _ | with_reducible refine bel_grow ?_ _ | with_reducible refine bel_alloc ?_ _ | with_reducible refine bel_drew ?_ | with_reducible refine bel_drewN ?_ _ | with_reducible refine bel_set ?_ (by simp) _ | with_reducible refine bel_setRow ?_ (by first | simp | (simp only [grow_size]; omega)) _)⟩
  | some x =>
    go_enter Try.func64, Try.ntmps64
    go_wp2_with (first | (at_lookup; (refine wpL_look_go _ rfl _ _ rfl B P rfl h a b rfl ha hb ?_)) | fail)
    go_ret
    exact ⟨by simp [faceOf, hl, gF], by repeat (first | with_reducible exact Below.refl _ _ | with_reducible assumption | with_reducible refine bel_then ?_ _ | with_reducible refine bel_grow ?_ _ | with_reducible refine bel_alloc ?_ _ | with_reducible refine bel_drew ?_ | with_reducible refine bel_drewN ?_ _ | with_reducible refine bel_set ?_ (by simp) _ | with_reducible refine bel_setRow ?_ (by first | simp | (simp only [grow_size]; omega)) _)⟩
end Go.Proofs.Ytpdnaceggpdleab
namespace Go.Proofs.Ytpdnaceggpdleab
open Go.ChangeShapes Go.WideShapes Go.ChangeAt Go.RowKit
set_option linter.unusedVariables false
set_option linter.unusedSimpArgs false
variable {H : Type} {enc : TypeId × Value → H} {P : Program}
theorem args_below (hl : laidOutB P = true) {W W' : World} (hb : Below W.heap.size W W') : ∀ (ts : List TypeId) (vs : List Value) (ds : List (DataW H)) (ps : List MemPlace),
    (ts.all fun t => P.readableRec t && decide (t < P.types.size)) = true → (∀ x ∈ ps, x.block < W.heap.size) →
    DataW.TrodAll enc P W 0 (fun _ => true) true ts vs ds ps → DataW.TrodAll enc P W' 0 (fun b => decide (b < W.heap.size)) true ts vs ds ps := by
  intro ts
  induction ts with
  | nil =>
    intro vs ds ps _ _ h
    obtain ⟨rfl, rfl, rfl⟩ := trodAll_nil h
    exact trodAll_mk0
  | cons t ts ih =>
    intro vs ds ps ht hx h
    simp only [List.all_cons, Bool.and_eq_true, decide_eq_true_eq] at ht
    obtain ⟨v, vs', d, ds', p, q, rfl, rfl, rfl, h0, h1⟩ := trodAll_cons h
    exact trodAll_cons_mk (Below.trod hl ht.1.1 ht.1.2 h0 hb fun x hp => hx x (by simp [hp])) (ih vs' ds' q ht.2 (fun x hp => hx x (by simp [hp])) h1)
theorem law_post {f : Func} {s : ChangeSpec} {W W' : World} {args : Array Value} {ds gs : List (DataW H)} {before : List MemPlace} {tb : TypeId}
    (hl : laidOutB P = true) (hts : (f.params.toList.all fun t => P.readableRec t && decide (t < P.types.size)) = true) (hv : s.vars = [])
    (hres : f.resultTypes = #[tb]) (htb : P.underlying tb = some .bool) (hr : (s.fn H ds).results = [.lit (.bool true)]) (ha : (s.fn H ds).args = ds) (hg : (s.fn H ds).vars = [])
    (hW : DataW.Whole enc P f.params.toList s.vars false W args.toList ds gs before) (hb : Below W.heap.size W W') :
    s.post enc P f false true false false W args (.bool true) W' := by
  have hlt := fun p hp => hW.lt (p := p) hp
  have hW0 := hW
  obtain ⟨p, q, h1, h2, rfl, hz, hn⟩ := hW
  rw [hv] at h2
  obtain ⟨rfl, rfl⟩ := trodVars_none h2
  simp only [List.append_nil] at *
  refine ⟨ds, [], p, [], p, [], hW0, ?_, ?_, ?_, World.keptBut_mono (fun _ h => h.elim) (hb.frame fun _ => False), fun h => by cases h⟩
  · simp only [List.append_nil, hr, hres]
    exact trodAll_cons_mk (shut_bool htb true) trodAll_mk0
  · simp only [List.append_nil, ha]
    exact args_below hl hb _ _ _ _ hts (fun x hx => hlt x hx) h1
  · simp only [List.append_nil, hg, hv]
    rfl
end Go.Proofs.Ytpdnaceggpdleab
namespace Go.Proofs.Ytpdnaceggpdleab
open Go.ChangeShapes Go.WideShapes Go.ChangeAt Go.RowKit
set_option linter.unusedVariables false
set_option linter.unusedSimpArgs false
set_option maxRecDepth 100000
theorem reach_num : reachBytes = 140737488351232 := rfl
section
variable {H : Type} {enc : TypeId × Value → H} {w : World} {base : Nat} {spare : Nat → Bool} {held : Bool}
theorem row_ints {t : TypeId} {k : Nat} {r : List Value} (hl : leavesAt Try.prog 10 0 t = (List.range k).map fun i => (i, 3)) (hk : r.length = k) (h : TW enc Try.prog w base spare held t r) :
    ∃ l : List Int, l.length = k ∧ (∀ y ∈ l, i64B y) ∧ ∀ i, i < k → r[i]? = some (.int .i64 (l.getD i 0)) := by
  obtain ⟨fu, x, hx, _⟩ := h
  obtain ⟨g, hg, hb⟩ := ints_trod hl Try.underlying3 hk hx
  refine ⟨(List.range k).map g, by simp, fun y hy => ?_, fun i hi => ?_⟩
  · obtain ⟨i, hi, rfl⟩ := List.mem_map.1 hy
    exact hb i (by simpa using hi)
  · rw [hg]
    simp [hi]
theorem ext_k {r s : List Value} {k : Nat} (hr : r.length = k) (hs : s.length = k) (h : ∀ i, i < k → r[i]? = s[i]?) : r = s := by
  apply List.ext_getElem?
  intro i
  by_cases hi : i < k
  · exact h i hi
  · rw [List.getElem?_eq_none (by omega), List.getElem?_eq_none (by omega)]
theorem len_rows {sz : Nat} {A : Option Addr} {n : Nat} {rows : List (List Value)} (hn : rows.length = n) (h : 0 < n → ∃ b off, A = some ⟨b, off, none⟩ ∧ b < w.heap.size ∧ ∀ i (hi : i < rows.length), rows[i].length = sz ∧ ∀ j, j < sz → w.cell? ⟨b, off + i * sz + j, none⟩ = rows[i][j]?) : ∀ r ∈ rows, r.length = sz := fun r hr => by
  obtain ⟨i, hi, rfl⟩ := List.getElem_of_mem hr
  obtain ⟨b, off, _, _, hc⟩ := h (by omega)
  exact (hc i hi).1
theorem szV : Try.prog.cellsOf 30 = 3 := by kernel_rfl
theorem szCr : Try.prog.cellsOf 109 = 3 := by kernel_rfl
theorem szCg : Try.prog.cellsOf 27 = 3 := by kernel_rfl
theorem szIn : Try.prog.cellsOf 3 = 1 := by kernel_rfl
theorem szIs : Try.prog.cellsOf 31 = 1 := by kernel_rfl
theorem byV : Try.prog.bytesOf 30 = 24 := by kernel_rfl
theorem byCr : Try.prog.bytesOf 109 = 24 := by kernel_rfl
theorem byIn : Try.prog.bytesOf 3 = 8 := by kernel_rfl
theorem byIs : Try.prog.bytesOf 31 = 24 := by kernel_rfl
theorem lvI : leavesAt Try.prog 10 0 3 = (List.range 1).map fun i => (i, 3) := by kernel_rfl
theorem lvV : leavesAt Try.prog 10 0 30 = (List.range 3).map fun i => (i, 3) := by kernel_rfl
theorem lvCr : leavesAt Try.prog 10 0 109 = (List.range 3).map fun i => (i, 3) := by kernel_rfl
theorem lvCg : leavesAt Try.prog 10 0 27 = [(0, 22), (1, 24), (2, 25)] := by kernel_rfl
theorem tw_intsF {c : Value} (h : TW enc Try.prog w base spare held 31 [c]) : ∃ (A : Option Addr) (k : Nat) (l : List Int), c = .slice A l.length k ∧ l.length ≤ reachBytes ∧ (∀ x ∈ l, i64B x) ∧ IL w A l := by
  obtain ⟨A, n, k, rows, rfl, hn, hb, hr, ht⟩ := tw_slice Try.underlying31 szIn byIn (by omega) h
  have hl := len_rows hn hr
  obtain ⟨ps, rfl, hps⟩ := list_of (fun x : Int => [Value.int .i64 x]) (fun x => -9223372036854775808 ≤ x ∧ x ≤ 9223372036854775807) rows (fun r hr => by
    obtain ⟨l, h1, h2, h3⟩ := row_ints lvI (hl r hr) (ht r hr)
    obtain ⟨x, rfl⟩ : ∃ x, l = [x] := by
      match l, h1 with
      | [x], _ => exact ⟨x, rfl⟩
    exact ⟨x, ext_k (hl r hr) rfl (fun i hi => by obtain rfl : i = 0 := by omega
                                                  rw [h3 0 (by omega)]; rfl), h2 x (by simp)⟩)
  have hn2 : ps.length = n := by simpa using hn
  refine ⟨A, k, ps, by rw [hn2], by omega, hps, fun h0 => ?_⟩
  obtain ⟨b, off, e, hb, hc⟩ := hr (by omega)
  refine ⟨b, off, e, hb, fun i hi => ?_⟩
  have := (hc i (by simpa using hi)).2 0 (by omega)
  rw [Nat.add_zero, Nat.mul_one] at this
  rw [this, List.getElem_map]; rfl
theorem tw_rowsF {t e : TypeId} {sz bz : Nat} {c : Value} {β : Type} (F : List Value → β → Prop) (hu : Try.prog.underlying t = some (.slice e)) (hsz : Try.prog.cellsOf e = sz) (hbz : Try.prog.bytesOf e = bz) (h1 : 1 ≤ bz) (h0 : 0 < sz) (hF : ∀ r : List Value, r.length = sz → TW enc Try.prog w base spare held e r → ∃ q, F r q) (h : TW enc Try.prog w base spare held t [c]) :
    ∃ (A : Option Addr) (kk : Nat) (ps : List β), c = .slice A ps.length kk ∧ ps.length ≤ reachBytes ∧ (∀ q ∈ ps, ∃ r, F r q) ∧ (0 < ps.length → ∃ b off, A = some ⟨b, off, none⟩ ∧ b < w.heap.size ∧ ∀ i (hi : i < ps.length), ∃ r, F r ps[i] ∧ ∀ j, j < sz → w.cell? ⟨b, off + i * sz + j, none⟩ = r[j]?) := by
  obtain ⟨A, n, kk, rows, rfl, hn, hb, hr, ht⟩ := tw_slice hu hsz hbz h0 h
  have hln := len_rows hn hr
  have hm : ∀ rows : List (List Value), (∀ r ∈ rows, ∃ q, F r q) → ∃ ps : List β, ps.length = rows.length ∧ ∀ i (h1 : i < rows.length) (h2 : i < ps.length), F rows[i] ps[i] := by
    intro rows
    induction rows with
    | nil => exact fun _ => ⟨[], rfl, fun i h1 _ => absurd h1 (by simp)⟩
    | cons a l ih =>
      intro h
      obtain ⟨q, hq⟩ := h a (by simp)
      obtain ⟨ps, hl, hps⟩ := ih (fun r hr => h r (by simp [hr]))
      refine ⟨q :: ps, by simp [hl], fun i h1 h2 => ?_⟩
      cases i with
      | zero => exact hq
      | succ i => exact hps i (by simpa using h1) (by simpa using h2)
  obtain ⟨ps, hl, hps⟩ := hm rows (fun r hr => hF r (hln r hr) (ht r hr))
  refine ⟨A, kk, ps, by rw [hl, hn], by have := Nat.mul_le_mul_left n h1; omega, fun q hq => ?_, fun hp => ?_⟩
  · obtain ⟨i, hi, rfl⟩ := List.getElem_of_mem hq
    exact ⟨_, hps i (by omega) hi⟩
  · obtain ⟨b, off, e, hb2, hc⟩ := hr (by omega)
    exact ⟨b, off, e, hb2, fun i hi => ⟨_, hps i (by omega) hi, (hc i (by omega)).2⟩⟩
theorem tw_facesF {c : Value} (h : TW enc Try.prog w base spare held 24 [c]) : ∃ (A : Option Addr) (kk : Nat) (ps : List (List Int)), c = .slice A ps.length kk ∧ ps.length ≤ reachBytes ∧ (∀ q ∈ ps, q.length ≤ reachBytes ∧ (∀ x ∈ q, i64B x)) ∧ FL w A ps := by
  obtain ⟨A, kk, ps, e, hl, hq, hr⟩ := tw_rowsF (β := List Int) (fun r q => ∃ B m, r = [.slice B q.length m] ∧ q.length ≤ reachBytes ∧ (∀ x ∈ q, i64B x) ∧ IL w B q) Try.underlying24 szIs byIs (by omega) (by omega) (fun r hr1 ht => by
    obtain ⟨_, c0, hc0, ht0⟩ := tw_leaf 10 31 0 0 31 (by rw [show leavesAt Try.prog 10 0 31 = [(0, 31)] by kernel_rfl]; simp) r ht
    obtain ⟨B, m, l, rfl, h2, h3, h4⟩ := tw_intsF ht0
    exact ⟨l, B, m, ext_k hr1 rfl (fun i hi => by obtain rfl : i = 0 := by omega
                                                  simpa using hc0), h2, h3, h4⟩) h
  refine ⟨A, kk, ps, e, hl, fun q hq' => ?_, fun h0 => ?_⟩
  · obtain ⟨r, B, m, _, h2, h3, _⟩ := hq q hq'
    exact ⟨h2, h3⟩
  · obtain ⟨b, off, e, hk, hc⟩ := hr h0
    refine ⟨b, off, e, hk, fun i hi => ?_⟩
    obtain ⟨r, ⟨B, m, rfl, _, _, h4⟩, h5⟩ := hc i hi
    have := h5 0 (by omega)
    rw [Nat.add_zero, Nat.mul_one] at this
    exact ⟨B, m, this, h4⟩
theorem row_lens {ps : List (List Int)} (h : ∀ q ∈ ps, q.length ≤ reachBytes ∧ (∀ x ∈ q, i64B x)) : (∀ x ∈ ps, x.length < 1099511627776000) ∧ (∀ x ∈ ps, ∀ y ∈ x, i64B y) :=
  ⟨fun x hx => by have := (h x hx).1; rw [reach_num] at this; omega, fun x hx => (h x hx).2⟩
end
end Go.Proofs.Ytpdnaceggpdleab
namespace Go.Proofs.Ytpdnaceggpdleab
set_option linter.unusedVariables false
set_option linter.unusedSimpArgs false
structure P3 where
  x : Int
  y : Int
  z : Int
def dt (a b : P3) : Int := a.x * b.x + a.y * b.y + a.z * b.z
def sb (a b : P3) : P3 := ⟨a.x - b.x, a.y - b.y, a.z - b.z⟩
def cr (a b : P3) : P3 := ⟨a.y * b.z - a.z * b.y, a.z * b.x - a.x * b.z, a.x * b.y - a.y * b.x⟩
def turn (o d a b : P3) : Int := dt d (cr (sb a o) (sb b o))
def grw (d a b : P3) : P3 := cr (sb a b) d
def nrm (a b c : P3) : P3 := cr (sb b a) (sb c a)
def sgn (n : Int) : Int := if n < 0 then -1 else if 0 < n then 1 else 0
def orI (t x y z : Int) : Int := if t ≠ 0 then t else if x ≠ 0 then x else if y ≠ 0 then y else z
/-- The side on which a line passes an edge. -/
def pS (o d a b : P3) : Int := sgn (orI (turn o d a b) (grw d a b).x (grw d a b).y (grw d a b).z)
/-- Within the bounds of points, of directions. -/
def InP (m : Int) (a : P3) : Prop := (-m ≤ a.x ∧ a.x ≤ m) ∧ (-m ≤ a.y ∧ a.y ≤ m) ∧ -m ≤ a.z ∧ a.z ≤ m
end Go.Proofs.Ytpdnaceggpdleab
namespace Go.Proofs.Ytpdnaceggpdleab
open Go.ChangeShapes Go.WideShapes Go.ChangeAt Go.RowKit
set_option linter.unusedVariables false
set_option linter.unusedSimpArgs false
set_option maxRecDepth 100000
/-- A row of structs of three numbers that lies somewhere. -/
def VL (W : World) (A : Option Addr) (ps : List P3) : Prop := 0 < ps.length → ∃ b off, A = some ⟨b, off, none⟩ ∧ b < W.heap.size ∧ ∀ i (h : i < ps.length), W.cell? ⟨b, off + i * 3, none⟩ = some (.int .i64 ps[i].x) ∧ W.cell? ⟨b, off + i * 3 + 1, none⟩ = some (.int .i64 ps[i].y) ∧ W.cell? ⟨b, off + i * 3 + 2, none⟩ = some (.int .i64 ps[i].z)
theorem VL.below {W W' : World} {A : Option Addr} {ps : List P3} (h : VL W A ps) (hb : Below W.heap.size W W') : VL W' A ps := fun hn => by
  obtain ⟨b, off, e, hl, hc⟩ := h hn
  refine ⟨b, off, e, Nat.lt_of_lt_of_le hl hb.size, fun i hi => ?_⟩
  obtain ⟨h1, h2, h3⟩ := hc i hi
  exact ⟨(hb.cell (p := ⟨b, _, none⟩) hl).trans h1, (hb.cell (p := ⟨b, _, none⟩) hl).trans h2, (hb.cell (p := ⟨b, _, none⟩) hl).trans h3⟩
theorem VL.nil (W : World) (A : Option Addr) : VL W A [] := fun h => by simp at h
theorem VL.at_ {W : World} {A : Option Addr} {ps : List P3} (h : VL W A ps) (i : Nat) (hi : i < ps.length) : ∃ b off, A = some ⟨b, off, none⟩ ∧ b < W.heap.size ∧ W.cell? ⟨b, off + i * 3, none⟩ = some (.int .i64 ps[i].x) ∧ W.cell? ⟨b, off + i * 3 + 1, none⟩ = some (.int .i64 ps[i].y) ∧ W.cell? ⟨b, off + i * 3 + 2, none⟩ = some (.int .i64 ps[i].z) := by
  obtain ⟨b, off, e, hl, hc⟩ := h (by omega)
  exact ⟨b, off, e, hl, hc i hi⟩
/-- A point of machine numbers. -/
def I3 (p : P3) : Prop := i64B p.x ∧ i64B p.y ∧ i64B p.z
structure Cg where
  vs : List P3
  fs : List (List Int)
  ks : List P3
/-- What a cage that is handed in keeps. -/
structure RawC (W : World) (c : Cg) (A1 A2 A3 : Option Addr) : Prop where
  l1 : c.vs.length ≤ reachBytes
  l2 : c.fs.length ≤ reachBytes
  l3 : c.ks.length ≤ reachBytes
  i1 : ∀ p ∈ c.vs, I3 p
  i2 : ∀ q ∈ c.fs, q.length ≤ reachBytes ∧ (∀ x ∈ q, i64B x)
  i3 : ∀ p ∈ c.ks, I3 p
  v1 : VL W A1 c.vs
  v2 : FL W A2 c.fs
  v3 : VL W A3 c.ks
section
variable {H : Type} {enc : TypeId × Value → H} {w : World} {base : Nat} {spare : Nat → Bool} {held : Bool}
theorem tw_P3s {t e : TypeId} {c : Value} (hu : Try.prog.underlying t = some (.slice e)) (hsz : Try.prog.cellsOf e = 3) (hbz : Try.prog.bytesOf e = 24) (hlv : leavesAt Try.prog 10 0 e = (List.range 3).map fun i => (i, 3)) (h : TW enc Try.prog w base spare held t [c]) :
    ∃ (A : Option Addr) (k : Nat) (ps : List P3), c = .slice A ps.length k ∧ ps.length ≤ reachBytes ∧ (∀ p ∈ ps, I3 p) ∧ VL w A ps := by
  obtain ⟨A, kk, ps, e, hl, hq, hr⟩ := tw_rowsF (β := P3) (fun r q => r = [.int .i64 q.x, .int .i64 q.y, .int .i64 q.z] ∧ I3 q) hu hsz hbz (by omega) (by omega) (fun r hr1 ht => by
    obtain ⟨l, q1, q2, q3⟩ := row_ints hlv hr1 ht
    obtain ⟨x, y, z, rfl⟩ : ∃ x y z, l = [x, y, z] := by
      match l, q1 with
      | [x, y, z], _ => exact ⟨x, y, z, rfl⟩
    refine ⟨⟨x, y, z⟩, ext_k hr1 rfl (fun i hi => ?_), q2 x (by simp), q2 y (by simp), q2 z (by simp)⟩
    rw [q3 i hi]
    rcases (by omega : i = 0 ∨ i = 1 ∨ i = 2) with rfl | rfl | rfl <;> rfl) h
  refine ⟨A, kk, ps, e, hl, fun q hq' => ?_, fun h0 => ?_⟩
  · obtain ⟨r, _, h2⟩ := hq q hq'
    exact h2
  · obtain ⟨b, off, e, hk, hc⟩ := hr h0
    refine ⟨b, off, e, hk, fun i hi => ?_⟩
    obtain ⟨r, ⟨rfl, _⟩, h5⟩ := hc i hi
    exact ⟨h5 0 (by omega), h5 1 (by omega), h5 2 (by omega)⟩
theorem open_Cage {cs : List Value} (hlen : cs.length = 3) (h : TW enc Try.prog w base spare held 27 cs) : ∃ (c : Cg) (A1 A2 A3 : Option Addr) (k1 k2 k3 : Nat), cs = [.slice A1 c.vs.length k1, .slice A2 c.fs.length k2, .slice A3 c.ks.length k3] ∧ RawC w c A1 A2 A3 := by
  obtain ⟨_, d0, hc0, ht0⟩ := tw_leaf 10 27 0 0 22 (by rw [lvCg]; simp) cs h
  obtain ⟨_, d1, hc1, ht1⟩ := tw_leaf 10 27 0 1 24 (by rw [lvCg]; simp) cs h
  obtain ⟨_, d2, hc2, ht2⟩ := tw_leaf 10 27 0 2 25 (by rw [lvCg]; simp) cs h
  obtain ⟨A1, k1, vs, rfl, l1, p1, r1⟩ := tw_P3s Try.underlying22 szV byV lvV ht0
  obtain ⟨A2, k2, fs, rfl, l2, p2, r2⟩ := tw_facesF ht1
  obtain ⟨A3, k3, ks, rfl, l3, p3, r3⟩ := tw_P3s Try.underlying25 szCr byCr lvCr ht2
  refine ⟨⟨vs, fs, ks⟩, A1, A2, A3, k1, k2, k3, ext_k hlen rfl (fun i hi => ?_), ⟨l1, l2, l3, p1, p2, p3, r1, r2, r3⟩⟩
  rcases (by omega : i = 0 ∨ i = 1 ∨ i = 2) with rfl | rfl | rfl
  · simpa using hc0
  · simpa using hc1
  · simpa using hc2
end
end Go.Proofs.Ytpdnaceggpdleab
namespace Go.Proofs.Ytpdnaceggpdleab
set_option linter.unusedVariables false
set_option linter.unusedSimpArgs false
theorem sorted_nodup {es : List Ed} (h : es.Pairwise ltE) : es.Nodup := by
  rw [List.nodup_iff_pairwise_ne]
  exact h.imp fun h e => by subst e; exact ltE_irrefl _ h
theorem look_ne {al : List Way} {a b : Int} : look al a b ≠ none ↔ ∃ w ∈ al, w.a = a ∧ w.b = b := by
  constructor
  · intro h
    cases hl : look al a b with
    | none => exact absurd hl h
    | some w => obtain ⟨h1, h2, h3⟩ := look_some hl; exact ⟨w, h1, h2, h3⟩
  · rintro ⟨w, hw, h2, h3⟩ h
    exact look_none h w hw ⟨h2, h3⟩
/-- To v comes a way just from where a face about v comes from. -/
theorem WalkOk.comes {n : Int} {fs : List (List Int)} (ok : WalkOk n fs) (u v : Int) : (∃ w ∈ waysL 0 fs, w.a = u ∧ w.b = v) ↔ ∃ w ∈ waysL 0 fs, w.a = v ∧ w.c = u := by
  constructor
  · rintro ⟨w, hw, rfl, rfl⟩
    obtain ⟨e, he⟩ := ok.next hw
    exact ⟨_, he, rfl, rfl⟩
  · rintro ⟨w, hw, rfl, rfl⟩
    obtain ⟨d, hd⟩ := ok.prev hw
    exact ⟨_, hd, rfl, rfl⟩
def bordB (v : Int) (e : Ed) : Bool := (e.a == v || e.b == v) && ((e.f == -1) != (e.g == -1))
def oneWay (al : List Way) (v u : Int) : Prop := ((look al v u ≠ none) ∧ look al u v = none) ∨ (look al v u = none ∧ look al u v ≠ none)
theorem bord_iff {al : List Way} {fs : List (List Int)} (hal : al = waysL 0 fs) (hl : Long fs) (a b : Int) : ((edOf al a b).f == -1) != ((edOf al a b).g == -1) ↔ oneWay al a b := by
  subst hal
  unfold edOf oneWay
  simp only
  have h1 := faceOf_neg hl a b
  have h2 := faceOf_neg hl b a
  by_cases c1 : look (waysL 0 fs) a b = none <;> by_cases c2 : look (waysL 0 fs) b a = none
  · simp [h1.2 c1, h2.2 c2, c1, c2]
  · have : ¬ faceOf (waysL 0 fs) b a = -1 := fun h => c2 (h2.1 h)
    simp [h1.2 c1, this, c1, c2]
  · have : ¬ faceOf (waysL 0 fs) a b = -1 := fun h => c1 (h1.1 h)
    simp [h2.2 c2, this, c1, c2]
  · have k1 : ¬ faceOf (waysL 0 fs) a b = -1 := fun h => c1 (h1.1 h)
    have k2 : ¬ faceOf (waysL 0 fs) b a = -1 := fun h => c2 (h2.1 h)
    have q1 : (faceOf (waysL 0 fs) a b == -1) = false := by simpa using k1
    have q2 : (faceOf (waysL 0 fs) b a == -1) = false := by simpa using k2
    simp [q1, q2, c1, c2]
theorem oneWay_symm {al : List Way} {a b : Int} (h : oneWay al a b) : oneWay al b a := by
  rcases h with ⟨h1, h2⟩ | ⟨h1, h2⟩
  · exact .inr ⟨h2, h1⟩
  · exact .inl ⟨h2, h1⟩
theorem bord_mem {n : Int} {fs : List (List Int)} {es : List Ed} (ok : WalkOk n fs) (hE : EdgesR (waysL 0 fs) es) (v : Int) (e : Ed) : e ∈ es.filter (bordB v) ↔ ∃ u, oneWay (waysL 0 fs) v u ∧ e = edOf (waysL 0 fs) (min v u) (max v u) := by
  rw [List.mem_filter, hE.mem]
  constructor
  · rintro ⟨⟨w, hw, rfl⟩, hb⟩
    unfold bordB at hb
    rw [Bool.and_eq_true] at hb
    have h1 := (bord_iff rfl ok.long _ _).1 hb.2
    have h2 := hb.1
    simp only [edOf, Bool.or_eq_true, beq_iff_eq] at h2
    rcases h2 with h2 | h2
    · refine ⟨max w.a w.b, by rw [h2] at h1; exact h1, ?_⟩
      have : min v (max w.a w.b) = min w.a w.b ∧ max v (max w.a w.b) = max w.a w.b := by omega
      rw [this.1, this.2]
    · refine ⟨min w.a w.b, by rw [h2] at h1; exact oneWay_symm h1, ?_⟩
      have : min v (min w.a w.b) = min w.a w.b ∧ max v (min w.a w.b) = max w.a w.b := by omega
      rw [this.1, this.2]
  · rintro ⟨u, h, rfl⟩
    refine ⟨?_, ?_⟩
    · rcases h with ⟨h1, _⟩ | ⟨_, h1⟩
      · obtain ⟨w, hw, rfl, rfl⟩ := look_ne.1 h1; exact ⟨w, hw, rfl⟩
      · obtain ⟨w, hw, rfl, rfl⟩ := look_ne.1 h1
        exact ⟨w, hw, by rw [Int.min_comm, Int.max_comm]⟩
    · unfold bordB
      rw [Bool.and_eq_true]
      refine ⟨by simp only [edOf, Bool.or_eq_true, beq_iff_eq]; omega, (bord_iff rfl ok.long _ _).2 ?_⟩
      rcases Int.le_total v u with h3 | h3
      · rw [Int.min_eq_left h3, Int.max_eq_right h3]; exact h
      · rw [Int.min_eq_right h3, Int.max_eq_left h3]; exact oneWay_symm h
/-- A fan that has all ways from v. -/
theorem fan_all {n : Int} {fs : List (List Int)} (ok : WalkOk n fs) {v start : Int} {L : List Way} {r : Bool} (h : FanR (waysL 0 fs) v start L r) (hl : L.length = (froms (waysL 0 fs) v).length) : ∀ w ∈ waysL 0 fs, w.a = v → w ∈ L := fun w hw ha =>
  nodup_all L _ (h.toFanC.nodup ok) (fun u hu => mem_froms.2 (h.mem u hu)) (by omega) w (mem_froms.2 ⟨hw, ha⟩)
theorem fewer {n : Int} {fs : List (List Int)} {t : TopoT} (h : TopoS n fs t) (v : Nat) (hv : v < t.fans.length) (hr : v < t.rs.length) : (t.es.filter (bordB v)).length = if t.rs[v] then 0 else 2 := by
  have ok := h.walk
  obtain ⟨L, hF, hl, _⟩ := h.fan v hv hr
  have hall := fan_all ok hF hl
  generalize (hubOf (waysL 0 fs) (v : Int) (waysL 0 fs)).1 = start at *
  have hmem := bord_mem ok h.edges (v : Int)
  have hne : L ≠ [] := by
    obtain ⟨w, hw, hb⟩ := ok.all (v : Int) (by omega) (by have := h.nf; omega)
    obtain ⟨d, hd⟩ := ok.next hw
    have := hall _ hd hb
    intro e; rw [e] at this; cases this
  have hpos : 0 < L.length := by
    rcases Nat.eq_zero_or_pos L.length with e | e
    · exact absurd (List.eq_nil_of_length_eq_zero e) hne
    · exact e
  -- where ways go from v, and where they come from
  have hB : ∀ u, look (waysL 0 fs) (v : Int) u ≠ none ↔ ∃ i, ∃ hi : i < L.length, L[i].b = u := fun u => by
    rw [look_ne]
    constructor
    · rintro ⟨w, hw, ha, rfl⟩
      obtain ⟨i, hi, e⟩ := List.getElem_of_mem (hall w hw ha)
      exact ⟨i, hi, by rw [e]⟩
    · rintro ⟨i, hi, rfl⟩
      obtain ⟨h1, h2⟩ := hF.mem _ (List.getElem_mem hi)
      exact ⟨_, h1, h2, rfl⟩
  have hC : ∀ u, look (waysL 0 fs) u (v : Int) ≠ none ↔ ∃ i, ∃ hi : i < L.length, L[i].c = u := fun u => by
    rw [look_ne, ok.comes]
    constructor
    · rintro ⟨w, hw, ha, rfl⟩
      obtain ⟨i, hi, e⟩ := List.getElem_of_mem (hall w hw ha)
      exact ⟨i, hi, by rw [e]⟩
    · rintro ⟨i, hi, rfl⟩
      obtain ⟨h1, h2⟩ := hF.mem _ (List.getElem_mem hi)
      exact ⟨_, h1, h2, rfl⟩
  have hends := ends_at start hpos
  have hBC : ∀ u, (∃ i, ∃ hi : i < L.length, L[i].b = u) → u = start ∨ ∃ i, ∃ hi : i < L.length, L[i].c = u := by
    rintro u ⟨i, hi, rfl⟩
    cases i with
    | zero => exact .inl (hF.first hi)
    | succ i => exact .inr ⟨i, by omega, (hF.link i hi).symm⟩
  have hCB : ∀ u, (∃ i, ∃ hi : i < L.length, L[i].c = u) → u = ends L start ∨ ∃ i, ∃ hi : i < L.length, L[i].b = u := by
    rintro u ⟨i, hi, rfl⟩
    by_cases e : i + 1 < L.length
    · exact .inr ⟨i + 1, e, hF.link i e⟩
    · left
      rw [hends]
      congr 2; omega
  have hnd : (t.es.filter (bordB v)).Nodup := (sorted_nodup h.edges.sorted).sublist List.filter_sublist
  cases hrv : t.rs[v] with
  | true =>
    rw [hrv] at hF
    have hes := (hF.back rfl).2
    rw [if_pos rfl]
    rw [List.length_eq_zero_iff, List.eq_nil_iff_forall_not_mem]
    intro e he
    obtain ⟨u, hu, _⟩ := (hmem e).1 he
    rcases hu with ⟨h1, h2⟩ | ⟨h1, h2⟩
    · rcases hBC u ((hB u).1 h1) with rfl | h3
      · exact absurd h2 ((hC _).2 ⟨L.length - 1, by omega, by rw [← hends, hes]⟩)
      · exact absurd h2 ((hC u).2 h3)
    · rcases hCB u ((hC u).1 h2) with rfl | h3
      · exact absurd h1 ((hB _).2 ⟨0, hpos, by rw [hes]; exact hF.first hpos⟩)
      · exact absurd h1 ((hB u).2 h3)
  | false =>
    rw [hrv] at hF
    obtain ⟨hs1, hs2⟩ := hF.stop rfl
    have hs3 : ends L start ≠ start := by
      rcases hs2 with h1 | h1
      · exact absurd h1 hne
      · exact h1
    have o1 : oneWay (waysL 0 fs) (v : Int) start := by
      refine .inl ⟨(hB _).2 ⟨0, hpos, hF.first hpos⟩, ?_⟩
      apply Classical.byContradiction
      intro hc
      obtain ⟨i, hi, e⟩ := (hC _).1 hc
      by_cases e2 : i + 1 < L.length
      · exact hF.mid i e2 e
      · have : i = L.length - 1 := by omega
        subst this
        rw [← hends] at e; exact hs3 e
    have o2 : oneWay (waysL 0 fs) (v : Int) (ends L start) := by
      refine .inr ⟨?_, (hC _).2 ⟨L.length - 1, by omega, hends.symm⟩⟩
      apply Classical.byContradiction
      intro hc
      obtain ⟨w, hw, ha, hb⟩ := look_ne.1 hc
      exact hs1 w hw ha hb
    have only : ∀ u, oneWay (waysL 0 fs) (v : Int) u → u = start ∨ u = ends L start := by
      rintro u (⟨h1, h2⟩ | ⟨h1, h2⟩)
      · rcases hBC u ((hB u).1 h1) with h3 | h3
        · exact .inl h3
        · exact absurd h2 ((hC u).2 h3)
      · rcases hCB u ((hC u).1 h2) with h3 | h3
        · exact .inr h3
        · exact absurd h1 ((hB u).2 h3)
    rw [if_neg (by simp)]
    have m1 := (hmem _).2 ⟨_, o1, rfl⟩
    have m2 := (hmem _).2 ⟨_, o2, rfl⟩
    have d12 : edOf (waysL 0 fs) (min (v : Int) start) (max (v : Int) start) ≠ edOf (waysL 0 fs) (min (v : Int) (ends L start)) (max (v : Int) (ends L start)) := fun e => by
      have e1 := congrArg Ed.a e
      have e2 := congrArg Ed.b e
      simp only [edOf] at e1 e2
      omega
    have l1 := nodup_le [_, _] (t.es.filter (bordB v)) (by simpa using d12) (by
      intro x hx
      simp only [List.mem_cons, List.not_mem_nil, or_false] at hx
      rcases hx with rfl | rfl
      · exact m1
      · exact m2)
    have l2 := nodup_le (t.es.filter (bordB v)) [edOf (waysL 0 fs) (min (v : Int) start) (max (v : Int) start), edOf (waysL 0 fs) (min (v : Int) (ends L start)) (max (v : Int) (ends L start))] hnd (by
      intro x hx
      obtain ⟨u, hu, rfl⟩ := (hmem x).1 hx
      rcases only u hu with rfl | rfl <;> simp)
    simp at l1 l2
    omega
/-- No more edges than ways. -/
theorem edges_le {n : Int} {fs : List (List Int)} {es : List Ed} (ok : WalkOk n fs) (hE : EdgesR (waysL 0 fs) es) : es.length ≤ (waysL 0 fs).length := by
  have := nodup_le es ((waysL 0 fs).map fun w => edOf (waysL 0 fs) (min w.a w.b) (max w.a w.b)) (sorted_nodup hE.sorted) (fun e he => by
    obtain ⟨w, hw, rfl⟩ := (hE.mem e).1 he
    exact List.mem_map.2 ⟨w, hw, rfl⟩)
  simpa using this
theorem faceOf_ge {fs : List (List Int)} (hl : Long fs) (a b : Int) : -1 ≤ faceOf (waysL 0 fs) a b := by
  unfold faceOf
  cases h : look (waysL 0 fs) a b with
  | none => simp
  | some x =>
    obtain ⟨h1, _, _⟩ := look_some h
    obtain ⟨j, hj, hm⟩ := (mem_waysL fs 0 x).1 h1
    have := waysF_f (by have := hl _ (List.getElem_mem hj); omega) hm
    simp; omega
/-- An edge has a face on one side at least. -/
theorem edge_one {n : Int} {fs : List (List Int)} {es : List Ed} (ok : WalkOk n fs) (hE : EdgesR (waysL 0 fs) es) (e : Ed) (he : e ∈ es) : -1 ≤ e.f ∧ -1 ≤ e.g ∧ ¬(e.f = -1 ∧ e.g = -1) := by
  obtain ⟨w, hw, rfl⟩ := (hE.mem e).1 he
  refine ⟨faceOf_ge ok.long _ _, faceOf_ge ok.long _ _, fun h => ?_⟩
  have h1 := (faceOf_neg ok.long _ _).1 h.1
  have h2 := (faceOf_neg ok.long _ _).1 h.2
  rcases Int.le_total w.a w.b with h3 | h3
  · rw [Int.min_eq_left h3, Int.max_eq_right h3] at h1
    exact look_none h1 w hw ⟨rfl, rfl⟩
  · rw [Int.min_eq_right h3, Int.max_eq_left h3] at h2
    exact look_none h2 w hw ⟨rfl, rfl⟩
end Go.Proofs.Ytpdnaceggpdleab
