/- The maps of package topo: which face goes along each way; of each vertex the last face that it was met in. Package topo: face, fan; rows of numbers and of faces that are read. The numbers that the document fixes for layer 2: alive answers true; facts on wrapped sums. Package bvh and the document's: boxes out of bounds, the least box of so many, the part in which it is longest. Package bvh: the least box of so many; the part in which a box is longest; a part of a point. Regions held by a fact: an operation that is forced, by its value or its call. -/
import Derived.Maps.OwnOps
import Derived.Maps.OwnSet
import Derived.Maps.RangeWalk
import Derived.DeepKeys4
import Derived.Deep.RegionHeld3
import Derived.Test.YthadlpkdfnonjaaProg
import Derived.Test.YthadlpkdfnonjaaC0
import Derived.Test.YthadlpkdfnonjaaC2
import Derived.Test.YthadlpkdfnonjaaC3
import Derived.Test.YthadlpkdfnonjaaC6
import Derived.Test.YthadlpkdfnonjaaC9
namespace Go.Proofs.Ythadlpkdfnonjaa
open Go.RowKit
set_option linter.unusedVariables false
set_option linter.unusedSimpArgs false
set_option linter.unnecessarySimpa false
set_option maxRecDepth 100000
def i64B (x : Int) : Prop := -9223372036854775808 ≤ x ∧ x ≤ 9223372036854775807
theorem i64B.wf {x : Int} (h : i64B x) : (Lit.int .i64 x).wf = true := by
  unfold i64B at h
  simp only [Lit.wf, IntKind.min, IntKind.max, IntKind.bits, IntKind.signed, Bool.and_eq_true, decide_eq_true_eq]
  simp
  omega
theorem lawI : Maps.Keyed Try.prog 3 := Maps.int_keyed Try.underlying3
def keyL (a b : Int) : Lit := .string (keyBytes [.int .i64 a, .int .i64 b])
def goD (f c : Int) : DataW Unit := .agg [.lit (.int .i64 f), .lit (.int .i64 c)]
/-- The datum of a map reads as these ways. -/
structure GoD (D : DataW Unit) (P : List Way) : Prop where
  rng : ∀ w ∈ P, i64B w.a ∧ i64B w.b
  has : ∀ a b, i64B a → i64B b → Maps.has D (keyL a b) = (look P a b).isSome
  val : ∀ a b w, i64B a → i64B b → look P a b = some w → ∀ zd, D.atKey (keyL a b) zd = goD w.f w.c
section
variable {ops : Array Oper} {rest : List Oper} {o : Oper} {a : Act} {Q : Exit → Act → World → Prop}
end
/-- Of each vertex the last face that it was met in. -/
structure LaD (D : DataW Unit) (P : List Way) : Prop where
  has : ∀ v, i64B v → (Maps.has D (.int .i64 v) = true ↔ ∃ x ∈ P, x.b = v)
  val : ∀ v, i64B v → Maps.has D (.int .i64 v) = true → ∃ x ∈ P, x.b = v ∧ (∀ zd, D.atKey (.int .i64 v) zd = .lit (.int .i64 x.f)) ∧ ∀ y ∈ P, y.b = v → y.f ≤ x.f
  size : ∃ M : List Int, M.Nodup ∧ (∀ v, v ∈ M ↔ ∃ x ∈ P, x.b = v) ∧ Maps.size D = M.length
def LaM (W : World) (B : Nat) (P : List Way) : Prop := ∃ D : DataW Unit, W.ownsMap Try.prog 3 (plainElem Try.prog 3) B P.length D ∧ LaD D P
theorem LaM.made (W : World) : LaM (W.alloc (.map #[] 0)) W.heap.size [] := ⟨.map [], World.ownsMap_made _ _ _ _, fun v _ => by simp [Maps.has], fun v _ h => by simp [Maps.has] at h, [], List.nodup_nil, by simp, rfl⟩
theorem LaM.kept {W W' : World} {B : Nat} {P : List Way} {row : Option Nat} (h : LaM W B P) (hg : W.grownBy W' row) (hne : some B ≠ row) : LaM W' B P := by
  obtain ⟨D, h1, h2⟩ := h; exact ⟨D, h1.kept hg hne, h2⟩
theorem LaM.lt {W : World} {B : Nat} {P : List Way} (h : LaM W B P) : B < W.heap.size := by
  obtain ⟨D, h1, h2⟩ := h; exact h1.lt
section
variable {ops : Array Oper} {rest : List Oper} {o : Oper} {a : Act} {Q : Exit → Act → World → Prop}
end
end Go.Proofs.Ythadlpkdfnonjaa
namespace Go.Proofs.Ythadlpkdfnonjaa
open Go.RowKit
set_option linter.unusedVariables false
set_option linter.unusedSimpArgs false
set_option linter.unnecessarySimpa false
set_option maxRecDepth 100000

/-- A row of numbers that lies somewhere. -/
def IL (W : World) (A : Option Addr) (ns : List Int) : Prop := 0 < ns.length → ∃ b off, A = some ⟨b, off, none⟩ ∧ b < W.heap.size ∧ ∀ i (h : i < ns.length), W.cell? ⟨b, off + i, none⟩ = some (.int .i64 ns[i])
theorem IL.below {W W' : World} {A : Option Addr} {ns : List Int} (h : IL W A ns) (hb : Below W.heap.size W W') : IL W' A ns := fun hn => by
  obtain ⟨b, off, e, hl, hc⟩ := h hn
  exact ⟨b, off, e, Nat.lt_of_lt_of_le hl hb.size, fun i hi => (hb.cell (p := ⟨b, _, none⟩) hl).trans (hc i hi)⟩
/-- A row of rows of numbers. -/
def FL (W : World) (A : Option Addr) (fs : List (List Int)) : Prop := 0 < fs.length → ∃ b off, A = some ⟨b, off, none⟩ ∧ b < W.heap.size ∧ ∀ i (h : i < fs.length), ∃ B m, W.cell? ⟨b, off + i, none⟩ = some (.slice B fs[i].length m) ∧ IL W B fs[i]
theorem FL.below {W W' : World} {A : Option Addr} {fs : List (List Int)} (h : FL W A fs) (hb : Below W.heap.size W W') : FL W' A fs := fun hn => by
  obtain ⟨b, off, e, hl, hc⟩ := h hn
  refine ⟨b, off, e, Nat.lt_of_lt_of_le hl hb.size, fun i hi => ?_⟩
  obtain ⟨B, m, h1, h2⟩ := hc i hi
  exact ⟨B, m, (hb.cell (p := ⟨b, _, none⟩) hl).trans h1, h2.below hb⟩
theorem FL.at_ {W : World} {A : Option Addr} {fs : List (List Int)} (h : FL W A fs) (i : Nat) (hi : i < fs.length) : ∃ b off B m, A = some ⟨b, off, none⟩ ∧ b < W.heap.size ∧ W.cell? ⟨b, off + i, none⟩ = some (.slice B fs[i].length m) ∧ IL W B fs[i] := by
  obtain ⟨b, off, e, hl, hc⟩ := h (by omega)
  obtain ⟨B, m, h1, h2⟩ := hc i hi
  exact ⟨b, off, B, m, e, hl, h1, h2⟩
theorem IL.at_ {W : World} {A : Option Addr} {ns : List Int} (h : IL W A ns) (i : Nat) (hi : i < ns.length) : ∃ b off, A = some ⟨b, off, none⟩ ∧ b < W.heap.size ∧ W.cell? ⟨b, off + i, none⟩ = some (.int .i64 ns[i]) := by
  obtain ⟨b, off, e, hl, hc⟩ := h (by omega)
  exact ⟨b, off, e, hl, hc i hi⟩
theorem LaM.below {W W' : World} {B : Nat} {P : List Way} (h : LaM W B P) (hb : Below W.heap.size W W') : LaM W' B P := by
  have hlt := h.lt
  obtain ⟨D, ⟨es, cl, h1, h2⟩, h3⟩ := h
  exact ⟨D, ⟨es, cl, (hb.block B hlt).trans h1, h2⟩, h3⟩
end Go.Proofs.Ythadlpkdfnonjaa
namespace Go.Proofs.Ythadlpkdfnonjaa
open Go.RowKit
set_option linter.unusedVariables false
set_option linter.unusedSimpArgs false
theorem wrap_id {x : Int} (h0 : -9223372036854775808 ≤ x) (h1 : x ≤ 9223372036854775807) : wrap64 x = x := by unfold wrap64; omega
end Go.Proofs.Ythadlpkdfnonjaa
namespace Go.Proofs.Ythadlpkdfnonjaa
open Go.RowKit
set_option linter.unusedVariables false
set_option linter.unusedSimpArgs false
set_option linter.unnecessarySimpa false
set_option maxRecDepth 100000
/-- Both corners are within the bounds. -/
def okP (p : P3) : Bool := wiB p.x p.y p.z 131072
def okBx (b : Bx) : Bool := okP b.lo && okP b.hi
theorem okP_iff {p : P3} : okP p = true ↔ InP 131072 p := by unfold okP InP; rw [wiB_iff]; omega
theorem okBx_iff {b : Bx} : okBx b = true ↔ InP 131072 b.lo ∧ InP 131072 b.hi := by unfold okBx; rw [Bool.and_eq_true, okP_iff, okP_iff]
def bxC (b : Bx) : Array Value := #[.int .i64 b.lo.x, .int .i64 b.lo.y, .int .i64 b.lo.z, .int .i64 b.hi.x, .int .i64 b.hi.y, .int .i64 b.hi.z]
/-- A row of n boxes. -/
def BxR (W : World) (A : Option Addr) (n : Nat) (B : Nat → Bx) : Prop := 0 < n → ∃ b off, A = some ⟨b, off, none⟩ ∧ b < W.heap.size ∧ ∀ i, i < n → ∀ j, j < 6 → W.cell? ⟨b, off + i * 6 + j, none⟩ = (bxC (B i))[j]?
theorem BxR.below {W W' : World} {A : Option Addr} {n : Nat} {B : Nat → Bx} (h : BxR W A n B) (hb : Below W.heap.size W W') : BxR W' A n B := fun hn => by
  obtain ⟨b, off, e, hl, hc⟩ := h hn
  exact ⟨b, off, e, Nat.lt_of_lt_of_le hl hb.size, fun i hi j hj => (hb.cell (p := ⟨b, _, none⟩) hl).trans (hc i hi j hj)⟩
theorem BxR.at_ {W : World} {A : Option Addr} {n : Nat} {B : Nat → Bx} (h : BxR W A n B) (i : Nat) (hi : i < n) : ∃ b off, A = some ⟨b, off, none⟩ ∧ b < W.heap.size ∧ W.cell? ⟨b, off + i * 6, none⟩ = some (.int .i64 (B i).lo.x) ∧ W.cell? ⟨b, off + i * 6 + 1, none⟩ = some (.int .i64 (B i).lo.y) ∧ W.cell? ⟨b, off + i * 6 + 2, none⟩ = some (.int .i64 (B i).lo.z) ∧ W.cell? ⟨b, off + i * 6 + 3, none⟩ = some (.int .i64 (B i).hi.x) ∧ W.cell? ⟨b, off + i * 6 + 4, none⟩ = some (.int .i64 (B i).hi.y) ∧ W.cell? ⟨b, off + i * 6 + 5, none⟩ = some (.int .i64 (B i).hi.z) := by
  obtain ⟨b, off, e, hl, hc⟩ := h (by omega)
  exact ⟨b, off, e, hl, hc i hi 0 (by omega), hc i hi 1 (by omega), hc i hi 2 (by omega), hc i hi 3 (by omega), hc i hi 4 (by omega), hc i hi 5 (by omega)⟩
def zL (L : List Nat) : List Int := L.map fun k : Nat => (k : Int)
theorem zL_len (L : List Nat) : (zL L).length = L.length := List.length_map _
theorem zL_get (L : List Nat) (i : Nat) (h : i < (zL L).length) : (zL L)[i] = ((L[i]'(by simpa [zL] using h) : Nat) : Int) := by simp [zL]
theorem IL.nat {W : World} {A : Option Addr} {L : List Nat} (h : IL W A (zL L)) (i : Nat) (hi : i < L.length) : ∃ b off, A = some ⟨b, off, none⟩ ∧ b < W.heap.size ∧ W.cell? ⟨b, off + i, none⟩ = some (.int .i64 (L[i] : Int)) := by
  obtain ⟨b, off, e, hl, hc⟩ := h.at_ i (by rw [zL_len]; exact hi)
  rw [zL_get] at hc
  exact ⟨b, off, e, hl, hc⟩
theorem vJn_any (a b : Bx) : Gives Try.prog 25 #[.agg #[.int .i64 a.lo.x, .int .i64 a.lo.y, .int .i64 a.lo.z, .int .i64 a.hi.x, .int .i64 a.hi.y, .int .i64 a.hi.z], .agg #[.int .i64 b.lo.x, .int .i64 b.lo.y, .int .i64 b.lo.z, .int .i64 b.hi.x, .int .i64 b.hi.y, .int .i64 b.hi.z]] (.agg #[.int .i64 (jnB a b).lo.x, .int .i64 (jnB a b).lo.y, .int .i64 (jnB a b).lo.z, .int .i64 (jnB a b).hi.x, .int .i64 (jnB a b).hi.y, .int .i64 (jnB a b).hi.z]) := vJoin_any _ _ _ _ _ _ _ _ _ _ _ _
theorem far_any (b : Bx) : Gives Try.prog 46 #[.agg #[.int .i64 b.lo.x, .int .i64 b.lo.y, .int .i64 b.lo.z, .int .i64 b.hi.x, .int .i64 b.hi.y, .int .i64 b.hi.z]] (.bool (!okBx b)) := by
  have k1 := vWithin_any b.lo.x b.lo.y b.lo.z 131072 (by omega)
  have k2 := vWithin_any b.hi.x b.hi.y b.hi.z 131072 (by omega)
  refine Gives.mk fun w => ?_
  cases h1 : okP b.lo
  · have e : okBx b = false := by unfold okBx; rw [h1]; rfl
    unfold okP at h1
    rw [h1] at k1
    rw [e]
    clear k2 h1
    go_enter Try.func46, Try.ntmps46
    go_wp2_with (first | (go_at_call 57; (with_reducible refine (k1.at_ _).mono ?_); rintro e w' ⟨rfl, xg, rfl⟩) | fail)
    go_ret
    exact ⟨rfl, (by repeat (first | exact Below.refl _ _ | refine bel_then ?_ _ | refine bel_grow ?_ _ | refine bel_alloc ?_ _ | refine bel_drew ?_ | refine bel_set ?_ (by simp) _ | refine bel_setRow ?_ (by first | omega | (simp; done) | (refine Nat.le_trans ?_ (top_le _ _); simp; done) | (refine Nat.le_succ_of_le (Nat.le_trans ?_ (top_le _ _)); simp; done) | (refine Nat.le_trans ?_ (top_le _ _); simp only [World.size_alloc]; refine Nat.le_succ_of_le (Nat.le_trans ?_ (top_le _ _)); simp; done)) _))⟩
  · have e : okBx b = okP b.hi := by unfold okBx; rw [h1]; rfl
    unfold okP at h1 e
    rw [h1] at k1
    rw [e]
    clear h1 e
    generalize wiB b.hi.x b.hi.y b.hi.z 131072 = q at *
    go_enter Try.func46, Try.ntmps46
    go_wp2_with (first | (go_at_call 57; (with_reducible refine (k1.at_ _).mono ?_); rintro e w' ⟨rfl, xg, rfl⟩) | (go_at_call 57; (with_reducible refine (k2.at_ _).mono ?_); rintro e w' ⟨rfl, xg2, rfl⟩) | fail)
    go_ret
    exact ⟨rfl, (by repeat (first | exact Below.refl _ _ | refine bel_then ?_ _ | refine bel_grow ?_ _ | refine bel_alloc ?_ _ | refine bel_drew ?_ | refine bel_set ?_ (by simp) _ | refine bel_setRow ?_ (by first | omega | (simp; done) | (refine Nat.le_trans ?_ (top_le _ _); simp; done) | (refine Nat.le_succ_of_le (Nat.le_trans ?_ (top_le _ _)); simp; done) | (refine Nat.le_trans ?_ (top_le _ _); simp only [World.size_alloc]; refine Nat.le_succ_of_le (Nat.le_trans ?_ (top_le _ _)); simp; done)) _))⟩
end Go.Proofs.Ythadlpkdfnonjaa
namespace Go.Proofs.Ythadlpkdfnonjaa
open Go.RowKit
set_option linter.unusedVariables false
set_option linter.unusedSimpArgs false
set_option linter.unnecessarySimpa false
set_option maxRecDepth 100000
theorem infoBxB {a b c d e f : Value} : (Try.prog.info? 43).map (·.size) = some (#[a, b, c, d, e, f] : Array Value).size := by kernel_rfl
theorem putBxB {ops : Array Oper} {rest : List Oper} {o : Oper} {a : Act} {w : World} {Q : Exit → Act → World → Prop} (hgd : o.guard = none) (x y : Operand) (ho : o.op = .store 43 x y) (g : Nat) (b : Bx) (hx : a.eval x = .pointer (some ⟨g, 0, none⟩)) (hy : a.eval y = .agg #[.int .i64 b.lo.x, .int .i64 b.lo.y, .int .i64 b.lo.z, .int .i64 b.hi.x, .int .i64 b.hi.y, .int .i64 b.hi.z]) (old : Array Value) (hs : old.size = 6) (h : Blk w g 43 old)
    (K : wpList Try.prog ops Q rest (a.put o.dst undef) (w.setRow g (#[.int .i64 b.lo.x, .int .i64 b.lo.y, .int .i64 b.lo.z, .int .i64 b.hi.x, .int .i64 b.hi.y, .int .i64 b.hi.z]))) : wpList Try.prog ops Q (o :: rest) a w :=
  wpList_store_row hgd 43 x y ho g _ hx hy 43 old h infoBxB hs (by simp [Value.oneCell']) K
theorem getBxB {ops : Array Oper} {rest : List Oper} {o : Oper} {a : Act} {w : World} {Q : Exit → Act → World → Prop} (hgd : o.guard = none) (x : Operand) (ho : o.op = .load 43 x) (g : Nat) (hx : a.eval x = .pointer (some ⟨g, 0, none⟩)) (b : Bx) (h : Blk w g 43 (#[.int .i64 b.lo.x, .int .i64 b.lo.y, .int .i64 b.lo.z, .int .i64 b.hi.x, .int .i64 b.hi.y, .int .i64 b.hi.z]))
    (K : wpList Try.prog ops Q rest (a.put o.dst (.agg #[.int .i64 b.lo.x, .int .i64 b.lo.y, .int .i64 b.lo.z, .int .i64 b.hi.x, .int .i64 b.hi.y, .int .i64 b.hi.z])) w) : wpList Try.prog ops Q (o :: rest) a w :=
  wpList_load_row hgd 43 x ho g hx 43 _ (0, 0) _ h Try.underlying43 rfl infoBxB K
theorem retBxB {fn : Func} {p : Tmp} (h : fn.results = #[.cell p 43]) (tmps : Array Value) (w : World) (g : Nat) (b : Bx) (hp : tmps.getD p undef = .pointer (some ⟨g, 0, none⟩)) (hB : Blk w g 43 (#[.int .i64 b.lo.x, .int .i64 b.lo.y, .int .i64 b.lo.z, .int .i64 b.hi.x, .int .i64 b.hi.y, .int .i64 b.hi.z])) : (results fn tmps).run Try.prog w = .ok (.agg #[.int .i64 b.lo.x, .int .i64 b.lo.y, .int .i64 b.lo.z, .int .i64 b.hi.x, .int .i64 b.hi.y, .int .i64 b.hi.z]) w :=
  results_cell_row h tmps w g 43 _ (0, 0) _ hp hB Try.underlying43 rfl infoBxB
set_option maxHeartbeats 1000000 in
theorem around_any (W : World) (A : Option Addr) (n c : Nat) (B : Nat → Bx) (hB : BxR W A n B) (hn : n ≤ 1000000) (J : Option Addr) (m : Nat) (L : List Nat) (hJ : IL W J (zL L)) (hL : 0 < L.length) (hin : ∀ i ∈ L, i < n) (hm : L.length ≤ m) (hl : L.length ≤ 1000000) :
    Calls Try.prog 81 #[.slice A n c, .slice J L.length m] W fun e W' => e = .returned (.agg #[.int .i64 (bxL B L).lo.x, .int .i64 (bxL B L).lo.y, .int .i64 (bxL B L).lo.z, .int .i64 (bxL B L).hi.x, .int .i64 (bxL B L).hi.y, .int .i64 (bxL B L).hi.z]) ∧ Below W.heap.size W W' := by
  obtain ⟨bi, oi, rfl, hbi, hci⟩ := hJ (by rw [zL_len]; exact hL)
  have hb1 : bi < W.heap.size + 1 := by omega
  have hb2 : bi < W.heap.size + 1 + 1 := by omega
  have hcz : ∀ k (h : k < L.length), W.cell? ⟨bi, oi + k, none⟩ = some (.int .i64 (L[k] : Int)) := fun k h => by
    have := hci k (by rw [zL_len]; exact h)
    rwa [zL_get] at this
  have h0 := hcz 0 hL
  rw [Nat.add_zero] at h0
  obtain ⟨ba, oa, rfl, hba, c0, c1, c2, c3, c4, c5⟩ := hB.at_ L[0] (hin _ (List.getElem_mem hL))
  have hba1 : ba < W.heap.size + 1 := by omega
  have hba2 : ba < W.heap.size + 1 + 1 := by omega
  have hi0 : (L[0] : Int) < (n : Int) := by have := hin _ (List.getElem_mem hL); omega
  have hi1 : (0 : Int) ≤ (L[0] : Int) := by omega
  have e1 := bxL_one B hL
  generalize hB0 : B L[0] = b0 at *
  generalize L[0] = i0 at *
  have hl0 : (0 : Int) < (L.length : Int) := by omega
  have hl1 : (1 : Int) ≤ (L.length : Int) := by omega
  clear hci hB0
  have fin : ∀ (Wz : World) (cs : Array Value), Blk Wz (W.heap.size + 1) 43 cs → True := fun _ _ _ => trivial
  clear fin
  by_cases hm1 : m = 1
  · have hL1 : L.length = 1 := by omega
    have eB : bxL B L = b0 := by rw [← e1, List.take_of_length_le (by omega)]
    rw [eB, hL1]
    subst hm1
    clear e1 eB hl1 hl0 hm hl
    go_enter Try.func81, Try.ntmps81
    go_wp2_with fail
    generalize hW1 : (W.alloc _).alloc _ = W1
    have hR1 : Blk W1 W.heap.size 43 #[.int .i64 0, .int .i64 0, .int .i64 0, .int .i64 0, .int .i64 0, .int .i64 0] := by rw [← hW1]; exact (Blk.new _ _ _ _ rfl).alloc _
    have hT1 : Blk W1 (W.heap.size + 1) 43 (#[.int .i64 b0.lo.x, .int .i64 b0.lo.y, .int .i64 b0.lo.z, .int .i64 b0.hi.x, .int .i64 b0.hi.y, .int .i64 b0.hi.z]) := by rw [← hW1]; exact Blk.new _ _ _ _ (by simp)
    have hb : Below W.heap.size W W1 := by rw [← hW1]; exact bel_alloc (bel_alloc (Below.refl _ _) _) _
    clear hW1
    go_loopw [17] (fun iv wr => iv = .int .i64 0 ∧ wr = W1) (fun _ _ => 0)
    case atStart => exact ⟨rfl, rfl⟩
    case round =>
      obtain ⟨rfl, rfl⟩ := hrel
      go_upto_region 7 with (fail)
      go_wp2_with (first | (refine getBxB rfl _ rfl (W.heap.size + 1) rfl b0 hT1 ?_; simp only [Act.put, List.setIfInBounds_toArray, List.set_cons_succ, List.set_cons_zero]) | (refine putBxB rfl _ _ rfl W.heap.size b0 rfl rfl _ rfl hR1 ?_; simp only [Act.put, List.setIfInBounds_toArray, List.set_cons_succ, List.set_cons_zero]) | fail)
      exact bodyPost_ret (retBxB rfl _ _ W.heap.size b0 rfl (hR1.setRow _)) rfl ⟨rfl, bel_setRow hb (Nat.le_refl _) _⟩
  · have hmm : (m - 1 : Nat) ≠ 0 := by omega
    clear hm1
    obtain ⟨p, hp⟩ : ∃ p, L.length = p + 1 := ⟨L.length - 1, by omega⟩
    have hpl : p ≤ 1000000 := by omega
    rw [hp] at hl0 hl1 ⊢
    replace hp := Lib.hid hp
    go_enter Try.func81, Try.ntmps81
    go_wp2_with fail
    generalize hW1 : (W.alloc _).alloc _ = W1
    have hR1 : Blk W1 W.heap.size 43 #[.int .i64 0, .int .i64 0, .int .i64 0, .int .i64 0, .int .i64 0, .int .i64 0] := by rw [← hW1]; exact (Blk.new _ _ _ _ rfl).alloc _
    have hT1 : Blk W1 (W.heap.size + 1) 43 (#[.int .i64 b0.lo.x, .int .i64 b0.lo.y, .int .i64 b0.lo.z, .int .i64 b0.hi.x, .int .i64 b0.hi.y, .int .i64 b0.hi.z]) := by rw [← hW1]; exact Blk.new _ _ _ _ (by simp)
    have hb : Below W.heap.size W W1 := by rw [← hW1]; exact bel_alloc (bel_alloc (Below.refl _ _) _) _
    clear hW1 h0 c0 c1 c2 c3 c4 c5 hb1 hb2 hba1 hba2
    go_loopw [17, 7] (fun iv jv wr => ∃ k : Nat, iv = .int .i64 (k : Int) ∧ k ≤ p ∧ Below W.heap.size W wr ∧ Blk wr W.heap.size 43 #[.int .i64 0, .int .i64 0, .int .i64 0, .int .i64 0, .int .i64 0, .int .i64 0] ∧ Blk wr (W.heap.size + 1) 43 (#[.int .i64 (bxL B (L.take (k + 1))).lo.x, .int .i64 (bxL B (L.take (k + 1))).lo.y, .int .i64 (bxL B (L.take (k + 1))).lo.z, .int .i64 (bxL B (L.take (k + 1))).hi.x, .int .i64 (bxL B (L.take (k + 1))).hi.y, .int .i64 (bxL B (L.take (k + 1))).hi.z])) (fun iv _ _ => p - (intOf iv).toNat)
    case atStart => exact ⟨0, rfl, by omega, hb, hR1, by rw [e1]; exact hT1⟩
    case round =>
      obtain ⟨k, rfl, hk, hbr, hRr, hTr⟩ := hrel
      clear hb hR1 hT1
      by_cases hkp : k < p
      · have hkl : k + 1 < L.length := by rw [hp.out]; omega
        have hz := (hbr.cell (p := ⟨bi, oi + (k + 1), none⟩) hbi).trans (hcz (k + 1) hkl)
        have ez : oi + (k + 1) = oi + 1 + k := by omega
        rw [ez] at hz
        have hii : bi < wr.heap.size := Nat.lt_of_lt_of_le hbi hbr.size
        obtain ⟨ba', oa', heq, hbaw, c0, c1, c2, c3, c4, c5⟩ := (hB.below hbr).at_ L[k + 1] (hin _ (List.getElem_mem hkl))
        cases heq
        have hj0 : (L[k + 1] : Int) < (n : Int) := by have := hin _ (List.getElem_mem hkl); omega
        have hj1 : (0 : Int) ≤ (L[k + 1] : Int) := by omega
        have en := bxL_next B (L := L) (k := k + 1) (by omega) hkl
        have k0 : (0 : Int) ≤ (k : Int) := by omega
        have k1 : (k : Int) < (p : Int) := by omega
        generalize B L[k + 1] = bx at *
        generalize L[k + 1] = ix at *
        generalize bxL B (L.take (k + 1)) = acc at *
        have kj := vJn_any acc bx
        rw [← en] at kj
        generalize hacc2 : bxL B (L.take (k + 1 + 1)) = acc2 at *
        replace hacc2 := Lib.hid hacc2
        clear en ez e1
        have tl := hTr.lt
        have t0 := hTr.cell 0
        have t1 := hTr.cell 1
        have t2 := hTr.cell 2
        have t3 := hTr.cell 3
        have t4 := hTr.cell 4
        have t5 := hTr.cell 5
        go_upto_region 5 with (fail)
        refine wp_region_tail 6 ?_ (by kernel_rfl) (by kernel_rfl) (by kernel_rfl) (fun x => ?_) (fun x => ?_)
        rotate_left
        · simp only [List.take_succ_cons, List.take_zero]
          repeat (go_big_quiet_step (((first | with_reducible exact kj.quiet _ | with_reducible exact kj.quiet2 _ _))))
          refine wpQuiet_nil ?_
          exact rfl
        simp only [List.drop_succ_cons, List.drop_zero]
        try simp only [Act.put, List.setIfInBounds_toArray, List.set_cons_succ, List.set_cons_zero]
        go_wp2_with (first | (refine putBxB rfl _ _ rfl (W.heap.size + 1) acc2 rfl rfl _ rfl (hTr.grow _) ?_; simp only [Act.put, List.setIfInBounds_toArray, List.set_cons_succ, List.set_cons_zero]) | fail)
        go_roundw
        case rel => exact ⟨k + 1, by go_num, by omega, bel_grow (bel_setRow hbr (by omega) _) _, (hRr.farRow _ (by omega)).grow _, by rw [hacc2.out]; exact (hTr.setRow _).grow _⟩
        case measure => simp [intOf]; omega
      · obtain rfl : k = p := by omega
        have eB : bxL B (L.take (k + 1)) = bxL B L := by rw [List.take_of_length_le (by rw [hp.out]; omega)]
        rw [eB] at hTr
        generalize hacc : bxL B L = acc at *
        replace hacc := Lib.hid hacc
        clear eB
        go_upto_region 7 with (fail)
        go_wp2_with (first | (refine getBxB rfl _ rfl (W.heap.size + 1) rfl acc hTr ?_; simp only [Act.put, List.setIfInBounds_toArray, List.set_cons_succ, List.set_cons_zero]) | (refine putBxB rfl _ _ rfl W.heap.size acc rfl rfl _ rfl hRr ?_; simp only [Act.put, List.setIfInBounds_toArray, List.set_cons_succ, List.set_cons_zero]) | fail)
        exact bodyPost_ret (retBxB rfl _ _ W.heap.size acc rfl (hRr.setRow _)) rfl ⟨by rw [hacc.out], bel_setRow hbr (Nat.le_refl _) _⟩
/-- The function that tells a part. -/
def partF (a : Nat) : FuncId := if a = 0 then 129 else if a = 1 then 130 else 131
theorem axN_cases (x y z : Int) : (axN x y z = 0 ∧ (max x (max y z) == x) = true) ∨ (axN x y z = 1 ∧ (max x (max y z) == x) = false ∧ (max x (max y z) == y) = true) ∨ (axN x y z = 2 ∧ (max x (max y z) == x) = false ∧ (max x (max y z) == y) = false) := by
  simp only [beq_iff_eq, beq_eq_false_iff_ne, ne_eq]
  unfold axN
  by_cases h : y ≤ x ∧ z ≤ x
  · rw [if_pos h]; left; omega
  · rw [if_neg h]
    by_cases h2 : z ≤ y
    · rw [if_pos h2]; right; left; omega
    · rw [if_neg h2]; right; right; omega
theorem longest_any (b : Bx) (hl : InP 262144 b.lo) (hh : InP 262144 b.hi) : Gives Try.prog 102 #[.agg #[.int .i64 b.lo.x, .int .i64 b.lo.y, .int .i64 b.lo.z, .int .i64 b.hi.x, .int .i64 b.hi.y, .int .i64 b.hi.z]] (.func (.func (partF (axB b))) #[] #[]) := by
  have kS := vSub_any b.hi.x b.hi.y b.hi.z b.lo.x b.lo.y b.lo.z
  obtain ⟨⟨l1, l2⟩, ⟨l3, l4⟩, l5, l6⟩ := hl
  obtain ⟨⟨h1, h2⟩, ⟨h3, h4⟩, h5, h6⟩ := hh
  rw [wrap_id (by omega) (by omega), wrap_id (by omega) (by omega), wrap_id (by omega) (by omega)] at kS
  have hc := axN_cases (b.hi.x - b.lo.x) (b.hi.y - b.lo.y) (b.hi.z - b.lo.z)
  have hax : axB b = axN (b.hi.x - b.lo.x) (b.hi.y - b.lo.y) (b.hi.z - b.lo.z) := rfl
  rw [hax]
  clear hax l1 l2 l3 l4 l5 l6 h1 h2 h3 h4 h5 h6
  generalize b.hi.x - b.lo.x = sx at *
  generalize b.hi.y - b.lo.y = sy at *
  generalize b.hi.z - b.lo.z = sz at *
  refine Gives.mk fun w => ?_
  rcases hc with ⟨e, hm⟩ | ⟨e, hm, hm2⟩ | ⟨e, hm, hm2⟩
  all_goals
    rw [e]
    clear e
    go_enter Try.func102, Try.ntmps102
    go_wp2_with (first | (go_at_call 39; (with_reducible refine (kS.at_ _).mono ?_); rintro e w' ⟨rfl, xg, rfl⟩) | fail)
    go_ret
    exact ⟨rfl, (by repeat (first | exact Below.refl _ _ | refine bel_then ?_ _ | refine bel_grow ?_ _ | refine bel_alloc ?_ _ | refine bel_drew ?_ | refine bel_set ?_ (by simp) _ | refine bel_setRow ?_ (by first | omega | (simp; done) | (refine Nat.le_trans ?_ (top_le _ _); simp; done) | (refine Nat.le_succ_of_le (Nat.le_trans ?_ (top_le _ _)); simp; done) | (refine Nat.le_trans ?_ (top_le _ _); simp only [World.size_alloc]; refine Nat.le_succ_of_le (Nat.le_trans ?_ (top_le _ _)); simp; done)) _))⟩
end Go.Proofs.Ythadlpkdfnonjaa
namespace Go.Proofs.Ythadlpkdfnonjaa
open Go.RowKit
set_option linter.unusedVariables false
set_option linter.unusedSimpArgs false
theorem wp_value {P : Program} {o : Oper} {a : Act} {w w' : World} {v : Value} {K : Act → World → Prop} {Q : Exit → Act → World → Prop} (h : (execOp a.eval o).run P w = .ok (.value v) w') (hk : K (a.put o.dst v) w') : o.wp P a w K Q := by
  unfold Oper.wp
  rw [h]
  exact hk
theorem wp_enter {P : Program} {o : Oper} {a : Act} {w w' : World} {f : FuncId} {args : Array Value} {R : Value → World → Prop} {K : Act → World → Prop} {Q : Exit → Act → World → Prop} (h : (execOp a.eval o).run P w = .ok (.enter f args) w') (hc : Calls P f args w' fun e w'' => ∃ v, e = .returned v ∧ R v w'') (hk : ∀ v w'', R v w'' → K (a.put o.dst v) w'') : o.wp P a w K Q := by
  unfold Oper.wp
  rw [h]
  exact hc.mono fun e w'' ⟨v, he, hr⟩ => by
    subst he
    exact hk v w'' hr
end Go.Proofs.Ythadlpkdfnonjaa
