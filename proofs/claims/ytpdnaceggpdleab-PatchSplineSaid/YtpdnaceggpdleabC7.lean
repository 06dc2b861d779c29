/- Rows of points that a call makes: contracts of copies and of sameness. Calls in drawn regions by contracts at a world; what least boxes are like. Contracts of Meet. What triangles that are told otherwise come to. Contracts of the document's own bounds and sums, exact. Package sub: sums of points. -/
import Derived.Maps.AppendAt
import Derived.Laws.AppendOwnNone
import Derived.Laws.OwnMore
import Derived.OwnWalk
import Derived.Test.YtpdnaceggpdleabC1
import Derived.Test.YtpdnaceggpdleabC3
import Derived.Test.YtpdnaceggpdleabC4
import Derived.Test.YtpdnaceggpdleabC6
namespace Go.Proofs.Ytpdnaceggpdleab
open Go.RowKit
set_option linter.unusedVariables false
set_option linter.unusedSimpArgs false
def part (q : Int × Int × Int) (k : Nat) : Int := if k = 0 then q.1 else if k = 1 then q.2.1 else q.2.2
/-- The cells of a row of points. -/
def newsV (p : Nat → Int × Int × Int) (n : Nat) : List Value := (List.range (n * 3)).map fun j => .int .i64 (part (p (j / 3)) (j % 3))
theorem newsV_len (p : Nat → Int × Int × Int) (n : Nat) : (newsV p n).length = n * 3 := by unfold newsV; simp
theorem newsV_get (p : Nat → Int × Int × Int) (n j : Nat) (h : j < n * 3) : (newsV p n)[j]? = some (.int .i64 (part (p (j / 3)) (j % 3))) := by unfold newsV; simp [h]
theorem newsV_one (p : Nat → Int × Int × Int) (n : Nat) : ∀ u ∈ newsV p n, u.oneCell' = true := by
  intro u hu
  unfold newsV at hu
  obtain ⟨j, _, rfl⟩ := List.mem_map.1 hu
  rfl
theorem add_lit (b off k : Nat) : (⟨b, off, none⟩ : Addr).add k = ⟨b, off + k, none⟩ := by
  unfold Addr.add; split <;> simp_all
theorem VF.cellAt {W : World} {b off n : Nat} {p : Nat → Int × Int × Int} (h : VF W (some ⟨b, off, none⟩) n p) (j : Nat) (hj : j < n * 3) : W.cell? ⟨b, off + j, none⟩ = some (.int .i64 (part (p (j / 3)) (j % 3))) := by
  obtain ⟨b', off', e, hl, hc⟩ := h (by omega)
  simp only [Option.some.injEq, Addr.mk.injEq, and_true] at e
  obtain ⟨rfl, rfl⟩ := e
  obtain ⟨h1, h2, h3⟩ := hc (j / 3) (by omega)
  have hm := Nat.mod_lt j (by omega : 0 < 3)
  have hd : j = j / 3 * 3 + j % 3 := by omega
  unfold part
  by_cases e0 : j % 3 = 0
  · rw [if_pos e0, ← h1]; congr 2; omega
  · by_cases e1 : j % 3 = 1
    · rw [if_neg e0, if_pos e1, ← h2]; congr 2; omega
    · rw [if_neg e0, if_neg e1, ← h3]; congr 2; omega
theorem VF.news {W : World} {b off n : Nat} {p : Nat → Int × Int × Int} (h : VF W (some ⟨b, off, none⟩) n p) : ∀ j u, (newsV p n)[j]? = some u → W.cell? ((⟨b, off, none⟩ : Addr).add j) = some u := by
  intro j u hu
  have hj : j < n * 3 := by
    have := (List.getElem?_eq_some_iff.1 hu).1
    rw [newsV_len] at this; exact this
  rw [newsV_get p n j hj] at hu
  rw [add_lit, h.cellAt j hj, hu]
theorem VF.zero (W : World) (A : Option Addr) (p : Nat → Int × Int × Int) : VF W A 0 p := fun h => absurd h (by omega)
theorem infoV : (Try.prog.info? 30).map (fun i => (i.zero, i.size, i.bytes)) = some (some (.agg #[.int .i64 0, .int .i64 0, .int .i64 0]), 3, 24) := by kernel_rfl
end Go.Proofs.Ytpdnaceggpdleab
namespace Go.Proofs.Ytpdnaceggpdleab
open Go.RowKit
set_option linter.unusedVariables false
set_option linter.unusedSimpArgs false
section
variable {P : Program} {f : FuncId} {args : Array Value} {v : Value} {w : World}
theorem q1 {y : More} (h : Calls P f args (grow w y) fun e w'' => e = .returned v ∧ ∃ z, w'' = grow (grow w y) z) : Calls P f args (grow w y) fun e w'' => e = .returned v ∧ ∃ z, w'' = grow w z :=
  h.mono fun _ _ ⟨he, z, hz⟩ => ⟨he, y.then z, hz⟩
theorem q2 {x y : More} (h : Calls P f args (grow w (x.then y)) fun e w'' => e = .returned v ∧ ∃ z, w'' = grow (grow w (x.then y)) z) : Calls P f args (grow w (x.then y)) fun e w'' => e = .returned v ∧ ∃ z, w'' = grow w (x.then z) :=
  h.mono fun _ _ ⟨he, z, hz⟩ => ⟨he, y.then z, hz⟩
end
/-! least boxes -/
def inP (b : (Int × Int × Int) × (Int × Int × Int)) (q : Int × Int × Int) : Prop := (b.1.1 ≤ q.1 ∧ q.1 ≤ b.2.1) ∧ (b.1.2.1 ≤ q.2.1 ∧ q.2.1 ≤ b.2.2.1) ∧ b.1.2.2 ≤ q.2.2 ∧ q.2.2 ≤ b.2.2.2
/-! two rows one behind the other -/
end Go.Proofs.Ytpdnaceggpdleab
namespace Go.Proofs.Ytpdnaceggpdleab
open Go.RowKit
set_option linter.unusedVariables false
set_option linter.unusedSimpArgs false
/-! what Meet answers, out of the three numbers -/
def mK (st sd : Int) : Bool := decide (st ≠ 0 ∧ sd ≠ 0)
def mN (fa st sd : Int) : Int := if st ≠ 0 ∧ sd ≠ 0 then (if st < 0 then -fa else fa) else 0
def mD (st sd : Int) : Int := if st ≠ 0 ∧ sd ≠ 0 then (if st < 0 then -st else st) else 0
def mF (st sd : Int) : Bool := decide (st ≠ 0 ∧ sd ≠ 0 ∧ sd < 0)
def far (o a b c : P3) : Int := dt (nrm a b c) (sb a o)
def stp (d a b c : P3) : Int := dt (nrm a b c) d
/-- The numbers of a hit; noughts, where the line or a point is out of the bounds. -/
def hN (o d a b c : P3) : Int := if bdB o d a b c then mN (far o a b c) (stp d a b c) (allS o d a b c) else 0
def hD (o d a b c : P3) : Int := if bdB o d a b c then mD (stp d a b c) (allS o d a b c) else 0
def hF (o d a b c : P3) : Bool := bdB o d a b c && mF (stp d a b c) (allS o d a b c)
def hK (o d a b c : P3) : Bool := bdB o d a b c && mK (stp d a b c) (allS o d a b c)
def hE (o d a b c : P3) : Int := if bdB o d a b c then 0 else 21
end Go.Proofs.Ytpdnaceggpdleab
namespace Go.Proofs.Ytpdnaceggpdleab
set_option linter.unusedVariables false
set_option linter.unusedSimpArgs false
/-! the other way round -/
/-! from another corner -/
/-! moved -/
def ad (a b : P3) : P3 := ⟨a.x + b.x, a.y + b.y, a.z + b.z⟩
def sc (a : P3) (k : Int) : P3 := ⟨a.x * k, a.y * k, a.z * k⟩
end Go.Proofs.Ytpdnaceggpdleab
namespace Go.Proofs.Ytpdnaceggpdleab
open Go.RowKit
set_option linter.unusedVariables false
set_option linter.unusedSimpArgs false
end Go.Proofs.Ytpdnaceggpdleab
namespace Go.Proofs.Ytpdnaceggpdleab
open Go.RowKit
set_option linter.unusedVariables false
set_option linter.unusedSimpArgs false
set_option linter.unnecessarySimpa false
set_option maxRecDepth 100000
def adW (a b : P3) : P3 := ⟨wrap64 (a.x + b.x), wrap64 (a.y + b.y), wrap64 (a.z + b.z)⟩
def foldP (s : P3) (l : List P3) : P3 := l.foldl adW s
theorem foldP_snoc (s : P3) (l : List P3) (p : P3) : foldP s (l ++ [p]) = adW (foldP s l) p := by simp [foldP]
theorem adW_I3 (a b : P3) : I3 (adW a b) := ⟨wrap_bd _, wrap_bd _, wrap_bd _⟩
theorem foldP_tri (g : P3 → Int) (hg : ∀ a b, g (adW a b) = wrap64 (g a + g b)) : ∀ (l : List P3) (s : P3), g (foldP s l) = (l.map g).foldl (fun s y => wrap64 (s + y)) (g s)
  | [], _ => rfl
  | p :: r, s => by
    have := foldP_tri g hg r (adW s p)
    simp only [foldP, List.foldl_cons, List.map_cons] at this ⊢
    rw [this, hg]
theorem fold_sum (l : List P3) : foldP Z3 l = tri3 fun g => sumS (l.map g) := by
  have e1 := foldP_tri P3.x (fun _ _ => rfl) l Z3
  have e2 := foldP_tri P3.y (fun _ _ => rfl) l Z3
  have e3 := foldP_tri P3.z (fun _ _ => rfl) l Z3
  unfold tri3 sumS
  rw [show foldP Z3 l = ⟨(foldP Z3 l).x, (foldP Z3 l).y, (foldP Z3 l).z⟩ from rfl, e1, e2, e3]
  rfl
theorem fold_I3 (s : P3) (l : List P3) (hs : I3 s) : I3 (foldP s l) := by
  rcases List.eq_nil_or_concat l with rfl | ⟨m, y, rfl⟩
  · exact hs
  · rw [List.concat_eq_append, foldP_snoc]; exact adW_I3 _ _
def ofP (s : P3) (n : Int) : P3 := ⟨rnd s.x n, rnd s.y n, rnd s.z n⟩
/-- Three cells of a row, put anew. -/
def set3 (cs : Array Value) (off : Nat) (p : P3) : Array Value := ((cs.setIfInBounds off (.int .i64 p.x)).setIfInBounds (off + 1) (.int .i64 p.y)).setIfInBounds (off + 2) (.int .i64 p.z)
theorem set3_size (cs : Array Value) (off : Nat) (p : P3) : (set3 cs off p).size = cs.size := by simp [set3]
theorem set3_set3 (cs : Array Value) (off : Nat) (p q : P3) : set3 (set3 cs off p) off q = set3 cs off q := by
  unfold set3
  apply Array.ext_getElem?
  intro i
  simp only [Array.getElem?_setIfInBounds, Array.size_setIfInBounds]
  repeat' split
  all_goals first | rfl | omega | simp_all
theorem set3_at {cs : Array Value} {off : Nat} (p : P3) (h : off + 3 ≤ cs.size) : (set3 cs off p)[off]? = some (.int .i64 p.x) ∧ (set3 cs off p)[off + 1]? = some (.int .i64 p.y) ∧ (set3 cs off p)[off + 2]? = some (.int .i64 p.z) := by
  unfold set3
  refine ⟨?_, ?_, ?_⟩
  · rw [Array.getElem?_setIfInBounds, if_neg (by omega), Array.getElem?_setIfInBounds, if_neg (by omega), Array.getElem?_setIfInBounds, if_pos rfl, if_pos (by omega)]
  · rw [Array.getElem?_setIfInBounds, if_neg (by omega), Array.getElem?_setIfInBounds, if_pos rfl, if_pos (by simp; omega)]
  · rw [Array.getElem?_setIfInBounds, if_pos rfl, if_pos (by simp; omega)]
theorem set3_self {cs : Array Value} {off : Nat} {p : P3} (h : cs[off]? = some (.int .i64 p.x) ∧ cs[off + 1]? = some (.int .i64 p.y) ∧ cs[off + 2]? = some (.int .i64 p.z)) : set3 cs off p = cs := by
  apply Array.ext_getElem?
  intro i
  unfold set3
  simp only [Array.getElem?_setIfInBounds, Array.size_setIfInBounds]
  obtain ⟨h1, h2, h3⟩ := h
  repeat' split
  all_goals first | rfl | simp_all
theorem VL.kept {W W' : World} {A : Option Addr} {ps : List P3} {b : Nat} (h : VL W A ps) (hg : W.grownBy W' (some b)) (hne : ∀ b2 o2, A = some ⟨b2, o2, none⟩ → b2 ≠ b) : VL W' A ps := fun hn => by
  obtain ⟨b2, off, e, hl, hc⟩ := h hn
  have hb := hne b2 off e
  refine ⟨b2, off, e, Nat.lt_of_lt_of_le hl hg.size, fun i hi => ?_⟩
  obtain ⟨h1, h2, h3⟩ := hc i hi
  have q : ∀ j v, W.cell? ⟨b2, j, none⟩ = some v → W'.cell? ⟨b2, j, none⟩ = some v := fun j v h => hg.cell h (by simp only; intro e; cases e; exact hb rfl)
  exact ⟨q _ _ h1, q _ _ h2, q _ _ h3⟩
theorem of_G (s : P3) (n : Int) (hs : I3 s) (hn : i64B n) : Gives Try.prog 58 #[.agg #[.int .i64 s.x, .int .i64 s.y, .int .i64 s.z], .int .i64 n] (.agg #[.int .i64 (ofP s n).x, .int .i64 (ofP s n).y, .int .i64 (ofP s n).z]) := by
  have k1 := vRound_any s.x n hs.1.1 hs.1.2 hn.1 hn.2
  have k2 := vRound_any s.y n hs.2.1.1 hs.2.1.2 hn.1 hn.2
  have k3 := vRound_any s.z n hs.2.2.1 hs.2.2.2 hn.1 hn.2
  refine Gives.mk fun w => ?_
  go_enter Try.func58, Try.ntmps58
  go_upto_region 1 with (fail)
  refine wp_region_tail 16 ?_ (by kernel_rfl) (by kernel_rfl) (by kernel_rfl) (fun x => ?_) (fun x => ?_)
  rotate_left
  · simp only [List.take_succ_cons, List.take_zero]
    repeat (go_big_quiet_step (((first | with_reducible exact k1.quiet _ | with_reducible exact k1.quiet2 _ _ | with_reducible exact k2.quiet _ | with_reducible exact k2.quiet2 _ _ | with_reducible exact k3.quiet _ | with_reducible exact k3.quiet2 _ _))))
    refine wpQuiet_nil ?_
    exact rfl
  simp only [List.drop_succ_cons, List.drop_zero]
  try simp only [Act.put, List.setIfInBounds_toArray, List.set_cons_succ, List.set_cons_zero]
  go_wp2
  refine bodyPost_ret (v := .agg #[.int .i64 (ofP s n).x, .int .i64 (ofP s n).y, .int .i64 (ofP s n).z]) (by simp [results, Try.results58, go_sem, ofP]) rfl ⟨rfl, (by repeat (first | exact Below.refl _ _ | refine bel_then ?_ _ | refine bel_grow ?_ _ | refine bel_alloc ?_ _ | refine bel_drew ?_ | refine bel_set ?_ (by simp) _ | refine bel_setRow ?_ (by first | omega | (simp; done) | (refine Nat.le_trans ?_ (top_le _ _); simp; done) | (refine Nat.le_succ_of_le (Nat.le_trans ?_ (top_le _ _)); simp; done) | (refine Nat.le_trans ?_ (top_le _ _); simp only [World.size_alloc]; refine Nat.le_succ_of_le (Nat.le_trans ?_ (top_le _ _)); simp; done)) _))⟩
set_option maxHeartbeats 2000000 in
theorem add_any (W : World) (b off : Nat) (T : TypeId) (cs : Array Value) (s : P3) (A : Option Addr) (c : Nat) (ps : List P3) (hB : Blk W b T cs) (h3 : off + 3 ≤ cs.size) (hc : cs[off]? = some (.int .i64 s.x) ∧ cs[off + 1]? = some (.int .i64 s.y) ∧ cs[off + 2]? = some (.int .i64 s.z)) (hA : VL W A ps) (hne : ∀ b2 o2, A = some ⟨b2, o2, none⟩ → b2 ≠ b) (hl : ps.length < 1099511627776) :
    Calls Try.prog 57 #[.pointer (some ⟨b, off, none⟩), .slice A ps.length c] W fun e W' => e = .returned (.tuple #[]) ∧ W.grownBy W' (some b) ∧ Blk W' b T (set3 cs off (foldP s ps)) := by
  go_enter Try.func57, Try.ntmps57
  go_wp2
  go_loopw [8] (fun iv wr => ∃ k : Nat, iv = .int .i64 (k : Int) ∧ k ≤ ps.length ∧ W.grownBy wr (some b) ∧ Blk wr b T (set3 cs off (foldP s (ps.take k)))) (fun iv _ => ps.length - (intOf iv).toNat)
  case atStart => exact ⟨0, rfl, by omega, (grown_of (Below.refl _ _)).but _, by rw [List.take_zero, show foldP s [] = s from rfl, set3_self hc]; exact hB⟩
  case round =>
    obtain ⟨k, rfl, hk, hg, hBr⟩ := hrel
    by_cases hlt : k < ps.length
    · obtain ⟨b2, o2, rfl, hl2, c1, c2, c3⟩ := (hA.kept hg hne).at_ k hlt
      have hb2 := hne b2 o2 rfl
      have htk : ps.take (k + 1) = ps.take k ++ [ps[k]] := List.take_succ_eq_append_getElem hlt
      generalize ps[k] = p at *
      replace htk := Lib.hid htk
      have hz3 := set3_at (foldP s (ps.take k)) h3
      have hsz := set3_size cs off (foldP s (ps.take k))
      generalize hsv : foldP s (ps.take k) = sv at *
      replace hsv := Lib.hid hsv
      have q0 : (0 : Int) ≤ (k : Int) := by omega
      have q1 : (k : Int) < (ps.length : Int) := by omega
      have hbl := hBr.lt
      have hB1 : Blk (wr.alloc (.cells #[.int .i64 p.x, .int .i64 p.y, .int .i64 p.z] 30)) b T (set3 cs off sv) := hBr.alloc _
      have hP1 : Blk (wr.alloc (.cells #[.int .i64 p.x, .int .i64 p.y, .int .i64 p.z] 30)) wr.heap.size 30 #[.int .i64 p.x, .int .i64 p.y, .int .i64 p.z] := Blk.new _ _ _ _ rfl
      have hg1 : W.grownBy (wr.alloc (.cells #[.int .i64 p.x, .int .i64 p.y, .int .i64 p.z] 30)) (some b) := hg.trans (World.grownBy_alloc _ _ _)
      go_upto_region 3 with (fail)
      generalize hwe : wr.alloc (.cells #[.int .i64 p.x, .int .i64 p.y, .int .i64 p.z] 30) = W1 at *
      clear hwe
      have y0 := hP1.cell 0
      have y1 := hP1.cell 1
      have y2 := hP1.cell 2
      have yl := hP1.lt
      have z0 := (hB1.cell off).trans hz3.1
      have z1 := (hB1.cell (off + 1)).trans hz3.2.1
      have z2 := (hB1.cell (off + 2)).trans hz3.2.2
      have zl := hB1.lt
      have k1 := vAdd_any sv.x sv.y sv.z p.x p.y p.z
      refine wp_region_tail 7 ?_ (by kernel_rfl) (by kernel_rfl) (by kernel_rfl) (fun x => ?_) (fun x => ?_)
      rotate_left
      · simp only [List.take_succ_cons, List.take_zero]
        repeat (go_big_quiet_step (((first | with_reducible exact k1.quiet _ | with_reducible exact k1.quiet2 _ _))))
        refine wpQuiet_nil ?_
        exact rfl
      simp only [List.drop_succ_cons, List.drop_zero]
      try simp only [Act.put, List.setIfInBounds_toArray, List.set_cons_succ, List.set_cons_zero]
      have hB2 := hB1.grow x
      have hg2 := hg1.trans ((grown_of (bel_grow (Below.refl _ _) x)).but _)
      generalize grow W1 x = W2 at *
      have r0 := (hB2.cell off).trans hz3.1
      have r1 := (hB2.cell (off + 1)).trans hz3.2.1
      have r2 := (hB2.cell (off + 2)).trans hz3.2.2
      have rl := hB2.lt
      have e0 := hB2.frozen off
      have e1 := hB2.frozen (off + 1)
      have e2 := hB2.frozen (off + 2)
      have hB3 := ((hB2.set off (.int .i64 (wrap64 (sv.x + p.x)))).set (off + 1) (.int .i64 (wrap64 (sv.y + p.y)))).set (off + 2) (.int .i64 (wrap64 (sv.z + p.z)))
      have hg3 := ((hg2.trans (set_grown W2 b off (.int .i64 (wrap64 (sv.x + p.x))))).trans (set_grown _ b (off + 1) (.int .i64 (wrap64 (sv.y + p.y))))).trans (set_grown _ b (off + 2) (.int .i64 (wrap64 (sv.z + p.z))))
      go_wp2
      go_roundw
      case rel =>
        refine ⟨k + 1, by go_num, by omega, hg3, ?_⟩
        rw [htk.out, foldP_snoc, hsv.out, ← set3_set3 cs off sv (adW sv p)]
        exact hB3
      case measure => simp [intOf]; omega
    · obtain rfl : k = ps.length := by omega
      rw [List.take_length] at hBr
      go_wp2
      first | go_end0 | (refine bodyPost_ret (results_none rfl _ _ _) rfl ?_)
      exact ⟨rfl, hg, hBr⟩
set_option maxHeartbeats 1000000 in
theorem together_any (W : World) (A : Option Addr) (c : Nat) (ps : List P3) (hA : VL W A ps) (hp : 0 < ps.length) (hl : ps.length < 1099511627776) :
    Calls Try.prog 62 #[.slice A ps.length c] W fun e W' => e = .returned (.agg #[.int .i64 (foldP Z3 ps).x, .int .i64 (foldP Z3 ps).y, .int .i64 (foldP Z3 ps).z]) ∧ Below W.heap.size W W' := by
  have hb1 : Below W.heap.size W ((W.alloc (.cells #[.int .i64 Z3.x, .int .i64 Z3.y, .int .i64 Z3.z] 118)).alloc (.cells #[.int .i64 Z3.x, .int .i64 Z3.y, .int .i64 Z3.z] 118)) := bel_alloc (bel_alloc (Below.refl _ _) _) _
  have hR : Blk ((W.alloc (.cells #[.int .i64 Z3.x, .int .i64 Z3.y, .int .i64 Z3.z] 118)).alloc (.cells #[.int .i64 Z3.x, .int .i64 Z3.y, .int .i64 Z3.z] 118)) W.heap.size 118 #[.int .i64 Z3.x, .int .i64 Z3.y, .int .i64 Z3.z] := (Blk.new _ _ _ _ rfl).alloc _
  have hS : Blk ((W.alloc (.cells #[.int .i64 Z3.x, .int .i64 Z3.y, .int .i64 Z3.z] 118)).alloc (.cells #[.int .i64 Z3.x, .int .i64 Z3.y, .int .i64 Z3.z] 118)) (W.heap.size + 1) 118 #[.int .i64 Z3.x, .int .i64 Z3.y, .int .i64 Z3.z] := Blk.new _ _ _ _ (by simp)
  obtain ⟨b3, o3, rfl, h3, _⟩ := hA hp
  have hA1 := hA.below hb1
  go_enter Try.func62, Try.ntmps62
  go_upto_region 2 with (fail)
  change Code.wp _ _ _ _ ((W.alloc (.cells #[.int .i64 Z3.x, .int .i64 Z3.y, .int .i64 Z3.z] 118)).alloc (.cells #[.int .i64 Z3.x, .int .i64 Z3.y, .int .i64 Z3.z] 118))
  generalize (W.alloc (.cells #[.int .i64 Z3.x, .int .i64 Z3.y, .int .i64 Z3.z] 118)).alloc (.cells #[.int .i64 Z3.x, .int .i64 Z3.y, .int .i64 Z3.z] 118) = W1 at *
  have cA := add_any W1 (W.heap.size + 1) 0 118 #[.int .i64 Z3.x, .int .i64 Z3.y, .int .i64 Z3.z] Z3 (some ⟨b3, o3, none⟩) c ps hS (by simp) ⟨rfl, rfl, rfl⟩ hA1 (fun b2 o2 e => by cases e; omega) hl
  go_upto_region 3 with (first | (go_at_call 57; (with_reducible refine cA.mono ?_); rintro e W2 ⟨rfl, hg, hB⟩) | fail)
  have hR2 : Blk W2 W.heap.size 118 #[.int .i64 Z3.x, .int .i64 Z3.y, .int .i64 Z3.z] := (hg.block _ hR.lt (by intro e; simp at e)).trans hR
  have hB2 : Blk W2 (W.heap.size + 1) 118 #[.int .i64 (foldP Z3 ps).x, .int .i64 (foldP Z3 ps).y, .int .i64 (foldP Z3 ps).z] := hB
  have hb2 : Below W.heap.size W W2 := bel_turn hb1 hg (by omega)
  have f0 := hR2.frozen 0
  have f1 := hR2.frozen 1
  have f2 := hR2.frozen 2
  have x0 := hR2.cell 0
  have x1 := hR2.cell 1
  have x2 := hR2.cell 2
  have xl := hR2.lt
  have y0 := hB2.cell 0
  have y1 := hB2.cell 1
  have y2 := hB2.cell 2
  have yl := hB2.lt
  have hR3 := ((hR2.set 0 (.int .i64 (foldP Z3 ps).x)).set 1 (.int .i64 (foldP Z3 ps).y)).set 2 (.int .i64 (foldP Z3 ps).z)
  have hb3 : Below W.heap.size W (((W2.setCell ⟨W.heap.size, 0, none⟩ (.int .i64 (foldP Z3 ps).x)).setCell ⟨W.heap.size, 1, none⟩ (.int .i64 (foldP Z3 ps).y)).setCell ⟨W.heap.size, 2, none⟩ (.int .i64 (foldP Z3 ps).z)) := bel_set (bel_set (bel_set hb2 (p := ⟨W.heap.size, 0, none⟩) (Nat.le_refl _) _) (p := ⟨W.heap.size, 1, none⟩) (Nat.le_refl _) _) (p := ⟨W.heap.size, 2, none⟩) (Nat.le_refl _) _
  clear cA hg hB hR hS hA1 hb1
  go_wp2
  generalize ((W2.setCell ⟨W.heap.size, 0, none⟩ (.int .i64 (foldP Z3 ps).x)).setCell ⟨W.heap.size, 1, none⟩ (.int .i64 (foldP Z3 ps).y)).setCell ⟨W.heap.size, 2, none⟩ (.int .i64 (foldP Z3 ps).z) = WE at *
  have w0 := hR3.cell 0
  have w1 := hR3.cell 1
  have w2 := hR3.cell 2
  refine bodyPost_ret (v := .agg #[.int .i64 (foldP Z3 ps).x, .int .i64 (foldP Z3 ps).y, .int .i64 (foldP Z3 ps).z]) (by simp [results, Try.results62, go_sem, w0, w1, w2]) rfl ⟨rfl, hb3⟩
end Go.Proofs.Ytpdnaceggpdleab
