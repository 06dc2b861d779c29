/- Cells set in rows of one's own; three cages in one world. The copies, all changed, as Level takes them. Package patch, pure: points so many times together; the points of a patch. Package patch: points so many times, together. Package patch: a net in a world; a number's place in a row; how many faces are counted around a vertex. Package patch: how many faces are counted around a vertex; a face's inner point at a corner. -/
import Derived.Deep.MidRow
import Derived.Test.YtpdnaceggpdleabC12
import Derived.Test.YtpdnaceggpdleabC13
import Derived.Test.YtpdnaceggpdleabC14
namespace Go.Proofs.Ytpdnaceggpdleab
open Go.RowKit
set_option linter.unusedVariables false
set_option linter.unusedSimpArgs false
theorem own_put {W : World} {base : Nat} {e : TypeId} {sz n : Nat} {v : Value} {xs : List Value} (h : W.ownsRow base e sz v n xs) {g : Nat} (hv : v.ownBlock = some g) {j : Nat} (hj : j < n * sz) (u : Value) : (W.setCell ⟨g, j, none⟩ u).ownsRow base e sz v n (xs.set j u) := by
  obtain ⟨hl, ⟨rfl, _⟩ | ⟨g', cap, cur, rfl, hb, hh, hc, hm, hs, ht⟩⟩ := h
  · simp [Value.ownBlock] at hv
  · obtain rfl : g' = g := by simpa [Value.ownBlock] using hv
    refine ⟨by rw [List.length_set]; exact hl, .inr ⟨g', cap, cur.setIfInBounds j u, rfl, hb, (Blk.set (W := W) (g := g') (t := e) (cs := cur) hh j u), hc, hm, by simpa using hs, ?_⟩⟩
    rw [Array.toList_setIfInBounds, List.take_set, ht]
theorem kC_set3 : ∀ (R : List P3) (i : Nat) (p : P3), i < R.length → (((kC R).set (i * 3) (.int .i64 p.x)).set (i * 3 + 1) (.int .i64 p.y)).set (i * 3 + 2) (.int .i64 p.z) = kC (R.set i p)
  | [], i, p, h => by simp at h
  | q :: r, 0, p, h => by simp [kC]
  | q :: r, i + 1, p, h => by
    have ih := kC_set3 r i p (by simpa using h)
    have e0 : (i + 1) * 3 = i * 3 + 3 := by omega
    simp only [kC, e0, List.set_cons_succ, ← ih]
/-- A row, changed as far as i. -/
def rowAt (F : P3 → P3) (i : Nat) (vs : List P3) : List P3 := (vs.take i).map F ++ vs.drop i
theorem rowAt_len (F : P3 → P3) (i : Nat) (vs : List P3) : (rowAt F i vs).length = vs.length := by
  unfold rowAt; simp; omega
theorem rowAt_zero (F : P3 → P3) (vs : List P3) : rowAt F 0 vs = vs := by simp [rowAt]
theorem rowAt_all (F : P3 → P3) (vs : List P3) : rowAt F vs.length vs = vs.map F := by simp [rowAt]
theorem rowAt_at (F : P3 → P3) (i : Nat) (vs : List P3) (h : i < vs.length) : (rowAt F i vs)[i]'(by rw [rowAt_len]; exact h) = vs[i] := by
  unfold rowAt
  rw [List.getElem_append_right (by simp; omega)]
  simp [Nat.min_eq_left (Nat.le_of_lt h)]
theorem rowAt_set (F : P3 → P3) (i : Nat) (vs : List P3) (h : i < vs.length) : (rowAt F i vs).set i (F vs[i]) = rowAt F (i + 1) vs := by
  apply List.ext_getElem?
  intro j
  rw [List.getElem?_set, rowAt_len]
  unfold rowAt
  by_cases e : i = j
  · subst e
    simp [h, List.getElem?_append, Nat.min_eq_left (Nat.succ_le_of_lt h)]
  · rw [if_neg e]
    simp only [List.getElem?_append, List.length_map, List.length_take, List.getElem?_map, List.getElem?_take, List.getElem?_drop]
    by_cases e2 : j < i
    · simp [e2, show j < i + 1 by omega, show j < vs.length by omega, Nat.min_eq_left (Nat.le_of_lt h), Nat.min_eq_left (Nat.succ_le_of_lt h)]
    · have e3 : ¬ j < i + 1 := by omega
      simp [e2, e3, Nat.min_eq_left (Nat.le_of_lt h), Nat.min_eq_left (Nat.succ_le_of_lt h)]
      congr 1; omega
theorem own_blk {W : World} {base : Nat} {e : TypeId} {sz n : Nat} {v : Value} {xs : List Value} (h : W.ownsRow base e sz v n xs) {g : Nat} (hv : v.ownBlock = some g) : base ≤ g ∧ ∃ cur, Blk W g e cur := by
  obtain ⟨hl, ⟨rfl, _⟩ | ⟨g', cap, cur, rfl, hb, hh, _⟩⟩ := h
  · simp [Value.ownBlock] at hv
  · obtain rfl : g' = g := by simpa [Value.ownBlock] using hv
    exact ⟨hb, cur, hh⟩
theorem own_apart {W : World} {b1 b2 : Nat} {e1 e2 : TypeId} {s1 s2 n1 n2 : Nat} {v1 v2 : Value} {x1 x2 : List Value} (h1 : W.ownsRow b1 e1 s1 v1 n1 x1) (h2 : W.ownsRow b2 e2 s2 v2 n2 x2) (he : e1 ≠ e2) {g k : Nat} (hg : v1.ownBlock = some g) (hk : v2.ownBlock = some k) : g ≠ k := by
  obtain ⟨_, c1, p1⟩ := own_blk h1 hg
  obtain ⟨_, c2, p2⟩ := own_blk h2 hk
  exact Blk.ne_ p1 p2 he
theorem neVC : (30 : TypeId) ≠ 27 := by decide
theorem neVK : (30 : TypeId) ≠ 109 := by decide
theorem neVI : (30 : TypeId) ≠ 3 := by decide
theorem neVL : (30 : TypeId) ≠ 31 := by decide
/-- A cage, a point and two copies of the cage: the one's vertices moved as far as i, the other's made flat as far as j. -/
structure KF (P : Nat) (C : Array Value) (b : P3) (M F : Nat) (B1 B2 B3 D1 D2 D3 : Option Addr) (d1 d2 d3 e1 e2 e3 : Nat) (vs : List P3) (fs : List (List Int)) (ks : List P3) (b1 b2 : Nat) (i j : Nat) (wr : World) : Prop where
  c : Blk wr P 27 C
  y : Blk wr (P + 1) 30 #[.int .i64 b.x, .int .i64 b.y, .int .i64 b.z]
  m : Blk wr M 27 #[.slice B1 vs.length d1, .slice B2 fs.length d2, .slice B3 ks.length d3]
  f : Blk wr F 27 #[.slice D1 vs.length e1, .slice D2 fs.length e2, .slice D3 ks.length e3]
  r1 : wr.ownsRow b1 30 3 (.slice B1 vs.length d1) vs.length (kC (rowAt (movP b) i vs))
  r2 : wr.ownsRow b2 30 3 (.slice D1 vs.length e1) vs.length (kC (rowAt (flaP b) j vs))
  g1 : OwnF wr b1 B2 d2 fs
  g2 : OwnF wr b2 D2 e2 fs
  k1 : wr.ownsRow b1 109 3 (.slice B3 ks.length d3) ks.length (kC ks)
  k2 : wr.ownsRow b2 109 3 (.slice D3 ks.length e3) ks.length (kC ks)
  lt1 : P + 1 < b1
  lt2 : b1 ≤ b2
  lt : ∀ k, (Value.slice B1 vs.length d1).ownBlock = some k → k < b2
section
variable {P : Nat} {C : Array Value} {b : P3} {M F : Nat} {B1 B2 B3 D1 D2 D3 : Option Addr} {d1 d2 d3 e1 e2 e3 : Nat} {vs : List P3} {fs : List (List Int)} {ks : List P3} {b1 b2 i j : Nat} {wr wq : World}
theorem KF.lay (h : KF P C b M F B1 B2 B3 D1 D2 D3 d1 d2 d3 e1 e2 e3 vs fs ks b1 b2 i j wr) (hb : Below wr.heap.size wr wq) : KF P C b M F B1 B2 B3 D1 D2 D3 d1 d2 d3 e1 e2 e3 vs fs ks b1 b2 i j wq :=
  ⟨h.c.below hb, h.y.below hb, h.m.below hb, h.f.below hb, own_lay h.r1 hb, own_lay h.r2 hb, h.g1.lay hb, h.g2.lay hb, own_lay h.k1 hb, own_lay h.k2 hb, h.lt1, h.lt2, h.lt⟩
end
end Go.Proofs.Ytpdnaceggpdleab
namespace Go.Proofs.Ytpdnaceggpdleab
open Go.RowKit
set_option linter.unusedVariables false
set_option linter.unusedSimpArgs false
theorem mov_i3 {vs : List P3} {b : P3} (hv : ∀ p ∈ vs, InP 32768 p) (hb : InP 16384 b) : ∀ p ∈ vs.map (movP b), I3 p := fun p hp => by
  obtain ⟨q, hq, rfl⟩ := List.mem_map.1 hp
  obtain ⟨x, y, z⟩ := hv q hq
  obtain ⟨bx, byy, bz⟩ := hb
  exact ⟨by simp only [movP]; unfold i64B; omega, by simp only [movP]; unfold i64B; omega, by simp only [movP]; unfold i64B; omega⟩
section
variable {P : Nat} {C : Array Value} {b : P3} {M F : Nat} {B1 B2 B3 D1 D2 D3 : Option Addr} {d1 d2 d3 e1 e2 e3 : Nat} {vs : List P3} {fs : List (List Int)} {ks : List P3} {b1 b2 : Nat} {wr : World}
end
end Go.Proofs.Ytpdnaceggpdleab
namespace Go.Proofs.Ytpdnaceggpdleab
open Go.RowKit
set_option linter.unusedVariables false
set_option linter.unusedSimpArgs false
set_option linter.unnecessarySimpa false
def addW (s : P3) (q : P3 × Int) : P3 := adW s (scW q.1 q.2)
def foldN (s : P3) (l : List (P3 × Int)) : P3 := l.foldl addW s
theorem foldN_snoc (s : P3) (l : List (P3 × Int)) (q : P3 × Int) : foldN s (l ++ [q]) = addW (foldN s l) q := by simp [foldN]
theorem addW_I3 (s : P3) (q : P3 × Int) : I3 (addW s q) := adW_I3 _ _
theorem foldN_I3 : ∀ (l : List (P3 × Int)) (s : P3), I3 s → I3 (foldN s l)
  | [], s, h => h
  | q :: l, s, _ => foldN_I3 l _ (addW_I3 s q)
theorem I3_zero : I3 Z3 := ⟨⟨by decide, by decide⟩, ⟨by decide, by decide⟩, ⟨by decide, by decide⟩⟩
def meanP (d : Int) (l : List (P3 × Int)) : P3 := ofP (foldN Z3 l) d
/-- A row of weighed points. -/
def WL (W : World) (A : Option Addr) (ps : List (P3 × Int)) : Prop := 0 < ps.length → ∃ b off, A = some ⟨b, off, none⟩ ∧ b < W.heap.size ∧ ∀ i (h : i < ps.length), W.cell? ⟨b, off + i * 4, none⟩ = some (.int .i64 ps[i].1.x) ∧ W.cell? ⟨b, off + i * 4 + 1, none⟩ = some (.int .i64 ps[i].1.y) ∧ W.cell? ⟨b, off + i * 4 + 2, none⟩ = some (.int .i64 ps[i].1.z) ∧ W.cell? ⟨b, off + i * 4 + 3, none⟩ = some (.int .i64 ps[i].2)
theorem WL.below {W W' : World} {A : Option Addr} {ps : List (P3 × Int)} (h : WL W A ps) (hb : Below W.heap.size W W') : WL W' A ps := fun hn => by
  obtain ⟨b, off, e, hl, hc⟩ := h hn
  refine ⟨b, off, e, Nat.lt_of_lt_of_le hl hb.size, fun i hi => ?_⟩
  obtain ⟨h1, h2, h3, h4⟩ := hc i hi
  exact ⟨(hb.cell (p := ⟨b, _, none⟩) hl).trans h1, (hb.cell (p := ⟨b, _, none⟩) hl).trans h2, (hb.cell (p := ⟨b, _, none⟩) hl).trans h3, (hb.cell (p := ⟨b, _, none⟩) hl).trans h4⟩
theorem WL.at_ {W : World} {A : Option Addr} {ps : List (P3 × Int)} (h : WL W A ps) (i : Nat) (hi : i < ps.length) : ∃ b off, A = some ⟨b, off, none⟩ ∧ b < W.heap.size ∧ W.cell? ⟨b, off + i * 4, none⟩ = some (.int .i64 ps[i].1.x) ∧ W.cell? ⟨b, off + i * 4 + 1, none⟩ = some (.int .i64 ps[i].1.y) ∧ W.cell? ⟨b, off + i * 4 + 2, none⟩ = some (.int .i64 ps[i].1.z) ∧ W.cell? ⟨b, off + i * 4 + 3, none⟩ = some (.int .i64 ps[i].2) := by
  obtain ⟨b, off, e, hl, hc⟩ := h (by omega)
  exact ⟨b, off, e, hl, hc i hi⟩
/-- What a cage's patches are reckoned from. -/
structure NetD where
  vs : List P3
  fs : List (List Int)
  sh : List Int
  t : TopoT
/-- A face's corner, so many ahead of a vertex. -/
def cornA (x : List Int) (v : Int) (a : Nat) : Int := x.getD ((x.idxOf v + a) % 4) 0
def NetD.ends (N : NetD) (v : Int) : List P3 := (N.t.es.zip N.sh).filterMap fun q => if q.2 = 0 then none else (other v q.1).map (vat N.vs)
def NetD.around (N : NetD) (v : Int) : Int := if N.t.rs.getD v.toNat false = true ∧ (N.ends v).length < 2 then ((N.t.fans.getD v.toNat []).length : Int) else 4
def NetD.inner (N : NetD) (f v : Int) : P3 :=
  let x := N.fs.getD f.toNat []
  meanP (N.around v + 5) [(vat N.vs (cornA x v 0), N.around v), (vat N.vs (cornA x v 1), 2), (vat N.vs (cornA x v 2), 1), (vat N.vs (cornA x v 3), 2)]
def NetD.near (N : NetD) (v w : Int) : P3 :=
  let e := N.t.es.getD (eix N.t.es v w) ⟨0, 0, 0, 0⟩
  if N.sh.getD (eix N.t.es v w) 0 = 0 then meanP 2 [(N.inner e.f v, 1), (N.inner e.g v, 1)] else meanP 3 [(vat N.vs v, 2), (vat N.vs w, 1)]
def NetD.middle (N : NetD) (v : Int) : P3 := meanP ((N.t.fans.getD v.toNat []).length : Int) ((N.t.fans.getD v.toNat []).map fun f => (N.inner f v, 1))
def NetD.corner (N : NetD) (v : Int) : P3 :=
  match N.ends v with
  | [] => N.middle v
  | [_] => N.middle v
  | [a, b] => meanP 6 [(vat N.vs v, 4), (a, 1), (b, 1)]
  | _ => vat N.vs v
def crW (a b : P3) : P3 := ⟨wrap64 (wrap64 (a.y * b.z) - wrap64 (a.z * b.y)), wrap64 (wrap64 (a.z * b.x) - wrap64 (a.x * b.z)), wrap64 (wrap64 (a.x * b.y) - wrap64 (a.y * b.x))⟩
def sbW (a b : P3) : P3 := ⟨wrap64 (a.x - b.x), wrap64 (a.y - b.y), wrap64 (a.z - b.z)⟩
def NetD.up (N : NetD) (x : List Int) : P3 := crW (sbW (vat N.vs (x.getD 2 0)) (vat N.vs (x.getD 0 0))) (sbW (vat N.vs (x.getD 3 0)) (vat N.vs (x.getD 1 0)))
/-- The sums of the normals after so many faces. -/
def NetD.ups (N : NetD) (l : List (List Int)) (v : Int) : P3 := foldP Z3 (l.filterMap fun x => if v ∈ x then some (N.up x) else none)
def cutP (p : P3) : P3 := ⟨(cut3 63 1023 p.x p.y p.z).1, (cut3 63 1023 p.x p.y p.z).2.1, (cut3 63 1023 p.x p.y p.z).2.2⟩
def NetD.normal (N : NetD) (v : Int) : P3 := cutP (N.ups N.fs v)
end Go.Proofs.Ytpdnaceggpdleab
namespace Go.Proofs.Ytpdnaceggpdleab
open Go.RowKit
set_option linter.unusedVariables false
set_option linter.unusedSimpArgs false
set_option linter.unnecessarySimpa false
set_option maxRecDepth 100000
set_option maxHeartbeats 2000000 in
theorem mean_any (W : World) (d : Int) (A : Option Addr) (c : Nat) (ps : List (P3 × Int)) (hA : WL W A ps) (hd : i64B d) (hl : ps.length < 1099511627776) :
    Calls Try.prog 27 #[.int .i64 d, .slice A ps.length c] W fun e W' => e = .returned (.agg #[.int .i64 (meanP d ps).x, .int .i64 (meanP d ps).y, .int .i64 (meanP d ps).z]) ∧ Below W.heap.size W W' := by
  have hb0 : Below W.heap.size W ((W.alloc (.cells #[.int .i64 0, .int .i64 0, .int .i64 0] 30)).alloc (.cells #[.int .i64 Z3.x, .int .i64 Z3.y, .int .i64 Z3.z] 30)) := bel_alloc (bel_alloc (Below.refl _ _) _) _
  have hR0 : Blk ((W.alloc (.cells #[.int .i64 0, .int .i64 0, .int .i64 0] 30)).alloc (.cells #[.int .i64 Z3.x, .int .i64 Z3.y, .int .i64 Z3.z] 30)) W.heap.size 30 #[.int .i64 0, .int .i64 0, .int .i64 0] := (Blk.new _ _ _ _ rfl).alloc _
  have hS0 : Blk ((W.alloc (.cells #[.int .i64 0, .int .i64 0, .int .i64 0] 30)).alloc (.cells #[.int .i64 Z3.x, .int .i64 Z3.y, .int .i64 Z3.z] 30)) (W.heap.size + 1) 30 #[.int .i64 (foldN Z3 []).x, .int .i64 (foldN Z3 []).y, .int .i64 (foldN Z3 []).z] := Blk.new _ _ _ _ (by simp)
  have hA0 := hA.below hb0
  obtain ⟨mv, hmv⟩ : ∃ mv, mv = ofP (foldN Z3 ps) d := ⟨_, rfl⟩
  rw [show meanP d ps = mv from hmv.symm]
  replace hmv := Lib.hid hmv
  go_enter Try.func27, Try.ntmps27
  go_upto_region 2 with (fail)
  have he : (W.alloc (.cells #[.int .i64 0, .int .i64 0, .int .i64 0] 30)).alloc (.cells #[.int .i64 0, .int .i64 0, .int .i64 0] 30) = (W.alloc (.cells #[.int .i64 0, .int .i64 0, .int .i64 0] 30)).alloc (.cells #[.int .i64 Z3.x, .int .i64 Z3.y, .int .i64 Z3.z] 30) := rfl
  rw [he]
  clear he
  generalize (W.alloc (.cells #[.int .i64 0, .int .i64 0, .int .i64 0] 30)).alloc (.cells #[.int .i64 Z3.x, .int .i64 Z3.y, .int .i64 Z3.z] 30) = W0 at *
  go_wp2
  go_loopw [10] (fun iv wr => ∃ k : Nat, iv = .int .i64 (k : Int) ∧ k ≤ ps.length ∧ Below W.heap.size W wr ∧ Blk wr W.heap.size 30 #[.int .i64 0, .int .i64 0, .int .i64 0] ∧ Blk wr (W.heap.size + 1) 30 #[.int .i64 (foldN Z3 (ps.take k)).x, .int .i64 (foldN Z3 (ps.take k)).y, .int .i64 (foldN Z3 (ps.take k)).z]) (fun iv _ => ps.length - (intOf iv).toNat)
  case atStart => exact ⟨0, rfl, by omega, hb0, hR0, by rw [List.take_zero]; exact hS0⟩
  case round =>
    obtain ⟨k, rfl, hk, hBr, hRr, hSr⟩ := hrel
    clear hb0 hR0 hS0 hA0
    rename World => wr
    by_cases hlt : k < ps.length
    · obtain ⟨b2, o2, rfl, hl2, c1, c2, c3, c4⟩ := (hA.below hBr).at_ k hlt
      have htk : foldN Z3 (ps.take (k + 1)) = addW (foldN Z3 (ps.take k)) ps[k] := by rw [List.take_succ_eq_append_getElem hlt, foldN_snoc]
      generalize ps[k] = p at *
      obtain ⟨p, n⟩ := p
      simp only [] at c1 c2 c3 c4
      generalize foldN Z3 (ps.take k) = sv at *
      replace htk := Lib.hid htk
      have q0 : (0 : Int) ≤ (k : Int) := by omega
      have q1 : (k : Int) < (ps.length : Int) := by omega
      have hP1 : Blk (wr.alloc (.cells #[.int .i64 p.x, .int .i64 p.y, .int .i64 p.z, .int .i64 n] 82)) wr.heap.size 82 #[.int .i64 p.x, .int .i64 p.y, .int .i64 p.z, .int .i64 n] := Blk.new _ _ _ _ rfl
      have hR1 := hRr.alloc (.cells #[.int .i64 p.x, .int .i64 p.y, .int .i64 p.z, .int .i64 n] 82)
      have hS1 := hSr.alloc (.cells #[.int .i64 p.x, .int .i64 p.y, .int .i64 p.z, .int .i64 n] 82)
      have hB1 : Below W.heap.size W (wr.alloc (.cells #[.int .i64 p.x, .int .i64 p.y, .int .i64 p.z, .int .i64 n] 82)) := bel_alloc hBr _
      go_upto_region 5 with (fail)
      generalize hwe : wr.alloc (.cells #[.int .i64 p.x, .int .i64 p.y, .int .i64 p.z, .int .i64 n] 82) = W1 at *
      clear hwe hRr hSr hBr
      generalize wr.heap.size = gp at *
      have y0 := hP1.cell 0
      have y1 := hP1.cell 1
      have y2 := hP1.cell 2
      have y3 := hP1.cell 3
      have yl := hP1.lt
      have z0 := hS1.cell 0
      have z1 := hS1.cell 1
      have z2 := hS1.cell 2
      have zl := hS1.lt
      have k0 := vScale_any p.x p.y p.z n
      have k1 := vAdd_any sv.x sv.y sv.z (wrap64 (p.x * n)) (wrap64 (p.y * n)) (wrap64 (p.z * n))
      refine wp_region_tail 7 ?_ (by kernel_rfl) (by kernel_rfl) (by kernel_rfl) (fun x => ?_) (fun x => ?_)
      rotate_left
      · simp only [List.take_succ_cons, List.take_zero]
        repeat (go_big_quiet_step (((first | with_reducible exact k0.quiet _ | with_reducible exact k0.quiet2 _ _ | with_reducible exact k1.quiet _ | with_reducible exact k1.quiet2 _ _))))
        refine wpQuiet_nil ?_
        exact rfl
      simp only [List.drop_succ_cons, List.drop_zero]
      try simp only [Act.put, List.setIfInBounds_toArray, List.set_cons_succ, List.set_cons_zero]
      have hR2 := hR1.grow x
      have hS2 := hS1.grow x
      have hB2 := bel_grow hB1 x
      clear hR1 hS1 hB1 hP1 y0 y1 y2 y3 yl z0 z1 z2 zl k0 k1
      generalize grow W1 x = W2 at *
      have r0 := hS2.cell 0
      have r1 := hS2.cell 1
      have r2 := hS2.cell 2
      have rl := hS2.lt
      have e0 := hS2.frozen 0
      have e1 := hS2.frozen 1
      have e2 := hS2.frozen 2
      have hS3 := ((hS2.set 0 (.int .i64 (addW sv (p, n)).x)).set 1 (.int .i64 (addW sv (p, n)).y)).set 2 (.int .i64 (addW sv (p, n)).z)
      have hR3 := ((hR2.far (b := W.heap.size + 1) 0 (.int .i64 (addW sv (p, n)).x) (by omega)).far (b := W.heap.size + 1) 1 (.int .i64 (addW sv (p, n)).y) (by omega)).far (b := W.heap.size + 1) 2 (.int .i64 (addW sv (p, n)).z) (by omega)
      have hB3 := bel_set (bel_set (bel_set hB2 (p := ⟨W.heap.size + 1, 0, none⟩) (by simp) (.int .i64 (addW sv (p, n)).x)) (p := ⟨W.heap.size + 1, 1, none⟩) (by simp) (.int .i64 (addW sv (p, n)).y)) (p := ⟨W.heap.size + 1, 2, none⟩) (by simp) (.int .i64 (addW sv (p, n)).z)
      replace hS3 := Lib.hid hS3
      replace hR3 := Lib.hid hR3
      replace hB3 := Lib.hid hB3
      clear hS2 hR2 hB2
      go_wp2
      go_roundw
      case rel =>
        refine ⟨k + 1, by go_num, by omega, hB3.out, hR3.out, ?_⟩
        rw [htk.out]
        exact hS3.out
      case measure => simp [intOf]; omega
    · obtain rfl : k = ps.length := by omega
      rw [List.take_length] at hSr
      have hI := foldN_I3 ps Z3 I3_zero
      generalize foldN Z3 ps = sv at *
      have k1 := vRound_any sv.x d hI.1.1 hI.1.2 hd.1 hd.2
      have k2 := vRound_any sv.y d hI.2.1.1 hI.2.1.2 hd.1 hd.2
      have k3 := vRound_any sv.z d hI.2.2.1 hI.2.2.2 hd.1 hd.2
      have z0 := hSr.cell 0
      have z1 := hSr.cell 1
      have z2 := hSr.cell 2
      have zl := hSr.lt
      clear hI hA hd
      go_upto_region 7 with (fail)
      refine wp_region_tail 13 ?_ (by kernel_rfl) (by kernel_rfl) (by kernel_rfl) (fun x => ?_) (fun x => ?_)
      rotate_left
      · simp only [List.take_succ_cons, List.take_zero]
        repeat (go_big_quiet_step (((first | with_reducible exact k1.quiet _ | with_reducible exact k1.quiet2 _ _ | with_reducible exact k2.quiet _ | with_reducible exact k2.quiet2 _ _ | with_reducible exact k3.quiet _ | with_reducible exact k3.quiet2 _ _))))
        refine wpQuiet_nil ?_
        exact rfl
      simp only [List.drop_succ_cons, List.drop_zero]
      try simp only [Act.put, List.setIfInBounds_toArray, List.set_cons_succ, List.set_cons_zero]
      have hR2 := hRr.grow x
      have hB2 := bel_grow hBr x
      clear hRr hSr hBr z0 z1 z2 zl k1 k2 k3
      generalize grow wr x = W2 at *
      have r0 := hR2.cell 0
      have r1 := hR2.cell 1
      have r2 := hR2.cell 2
      have rl := hR2.lt
      have e0 := hR2.frozen 0
      have e1 := hR2.frozen 1
      have e2 := hR2.frozen 2
      have hR3 := ((hR2.set 0 (.int .i64 (rnd sv.x d))).set 1 (.int .i64 (rnd sv.y d))).set 2 (.int .i64 (rnd sv.z d))
      have hB3 := bel_set (bel_set (bel_set hB2 (p := ⟨W.heap.size, 0, none⟩) (by simp) (.int .i64 (rnd sv.x d))) (p := ⟨W.heap.size, 1, none⟩) (by simp) (.int .i64 (rnd sv.y d))) (p := ⟨W.heap.size, 2, none⟩) (by simp) (.int .i64 (rnd sv.z d))
      replace hR3 := Lib.hid hR3
      replace hB3 := Lib.hid hB3
      clear hR2 hB2
      go_wp2
      replace hR3 := hR3.out
      replace hB3 := hB3.out
      generalize ((W2.setCell ⟨W.heap.size, 0, none⟩ (.int .i64 (rnd sv.x d))).setCell ⟨W.heap.size, 1, none⟩ (.int .i64 (rnd sv.y d))).setCell ⟨W.heap.size, 2, none⟩ (.int .i64 (rnd sv.z d)) = W3 at *
      have w0 : W3.cell? ⟨W.heap.size, 0, none⟩ = some (.int .i64 (rnd sv.x d)) := hR3.cell 0
      have w1 : W3.cell? ⟨W.heap.size, 1, none⟩ = some (.int .i64 (rnd sv.y d)) := hR3.cell 1
      have w2 : W3.cell? ⟨W.heap.size, 2, none⟩ = some (.int .i64 (rnd sv.z d)) := hR3.cell 2
      refine bodyPost_ret (v := .agg #[.int .i64 (ofP sv d).x, .int .i64 (ofP sv d).y, .int .i64 (ofP sv d).z]) (by simp [results, Try.results27, go_sem, w0, w1, w2, ofP]) rfl ⟨by rw [hmv.out], hB3⟩
end Go.Proofs.Ytpdnaceggpdleab
namespace Go.Proofs.Ytpdnaceggpdleab
open Go.RowKit
set_option linter.unusedVariables false
set_option linter.unusedSimpArgs false
set_option linter.unnecessarySimpa false
set_option maxRecDepth 100000
structure NetA where
  B1 : Option Addr
  B2 : Option Addr
  B3 : Option Addr
  A1 : Option Addr
  Q : Option Addr
  S : Option Addr
  E : Option Addr
  d1 : Nat
  d2 : Nat
  d3 : Nat
  k1 : Nat
  k2 : Nat
  k3 : Nat
  k4 : Nat
@[reducible] def netC (N : NetD) (a : NetA) : Array Value := #[.slice a.B1 N.t.es.length a.d1, .slice a.B2 N.t.fans.length a.d2, .slice a.B3 N.t.rs.length a.d3, .slice a.A1 N.vs.length a.k1, .slice a.Q N.fs.length a.k2, .slice a.S N.sh.length a.k3, .slice a.E N.vs.length a.k4]
/-- Rows of four numbers. -/
def QL (W : World) (A : Option Addr) (fs : List (List Int)) : Prop := 0 < fs.length → ∃ b off, A = some ⟨b, off, none⟩ ∧ b < W.heap.size ∧ ∀ i (h : i < fs.length) k, k < 4 → W.cell? ⟨b, off + i * 4 + k, none⟩ = some (.int .i64 (fs[i].getD k 0))
theorem QL.below {W W' : World} {A : Option Addr} {fs : List (List Int)} (h : QL W A fs) (hb : Below W.heap.size W W') : QL W' A fs := fun hn => by
  obtain ⟨b, off, e, hl, hc⟩ := h hn
  exact ⟨b, off, e, Nat.lt_of_lt_of_le hl hb.size, fun i hi k hk => (hb.cell (p := ⟨b, _, none⟩) hl).trans (hc i hi k hk)⟩
/-- The rows of sharp edges' other ends. -/
def EN (W : World) (A : Option Addr) (n : Nat) (en : Nat → List P3) : Prop := 0 < n → ∃ b off, A = some ⟨b, off, none⟩ ∧ b < W.heap.size ∧ ∀ v, v < n → ∃ B m, W.cell? ⟨b, off + v, none⟩ = some (.slice B (en v).length m) ∧ WL W B ((en v).map fun p => (p, 1))
theorem EN.below {W W' : World} {A : Option Addr} {n : Nat} {en : Nat → List P3} (h : EN W A n en) (hb : Below W.heap.size W W') : EN W' A n en := fun hn => by
  obtain ⟨b, off, e, hl, hc⟩ := h hn
  refine ⟨b, off, e, Nat.lt_of_lt_of_le hl hb.size, fun i hi => ?_⟩
  obtain ⟨B, m, h1, h2⟩ := hc i hi
  exact ⟨B, m, (hb.cell (p := ⟨b, _, none⟩) hl).trans h1, h2.below hb⟩
structure NetV (W : World) (N : NetD) (a : NetA) : Prop where
  es : EL W a.B1 N.t.es
  fans : FL W a.B2 N.t.fans
  rs : BL W a.B3 N.t.rs
  vs : VL W a.A1 N.vs
  fs : QL W a.Q N.fs
  sh : IL W a.S N.sh
  en : EN W a.E N.vs.length fun v => N.ends v
theorem NetV.below {W W' : World} {N : NetD} {a : NetA} (h : NetV W N a) (hb : Below W.heap.size W W') : NetV W' N a :=
  ⟨h.es.below hb, h.fans.below hb, h.rs.below hb, h.vs.below hb, h.fs.below hb, h.sh.below hb, h.en.below hb⟩
/-- What a net keeps to. -/
structure NetOk (N : NetD) : Prop where
  nf : N.t.fans.length = N.vs.length
  nr : N.t.rs.length = N.vs.length
  ns : N.sh.length = N.t.es.length
  four : ∀ x ∈ N.fs, x.length = 4 ∧ ∀ y ∈ x, 0 ≤ y ∧ y < N.vs.length
  nodup : ∀ x ∈ N.fs, x.Nodup
  fan : ∀ v, v < N.vs.length → ∀ f ∈ N.t.fans.getD v [], (0 ≤ f ∧ f < N.fs.length) ∧ (v : Int) ∈ N.fs.getD f.toNat []
  rng : ∀ e ∈ N.t.es, (0 ≤ e.a ∧ e.a < N.vs.length) ∧ (0 ≤ e.b ∧ e.b < N.vs.length)
  sorted : N.t.es.Pairwise ltE
  soft : ∀ e ∈ N.t.es.zip N.sh, e.2 = 0 → ((0 ≤ e.1.f ∧ e.1.f < N.fs.length) ∧ (0 ≤ e.1.g ∧ e.1.g < N.fs.length)) ∧ (e.1.a ∈ N.fs.getD e.1.f.toNat [] ∧ e.1.b ∈ N.fs.getD e.1.f.toNat []) ∧ e.1.a ∈ N.fs.getD e.1.g.toNat [] ∧ e.1.b ∈ N.fs.getD e.1.g.toNat []
  edge : ∀ x ∈ N.fs, ∀ k, k < 4 → eix N.t.es (x.getD k 0) (x.getD ((k + 1) % 4) 0) < N.t.es.length
  nv : N.vs.length < 1000000000
  nfs : N.fs.length < 1000000000
  nes : N.t.es.length < 1000000000
  fl : ∀ x ∈ N.t.fans, x.length < 1000000000
theorem infoNet : (Try.prog.info? 60).map (·.size) = some 7 := by kernel_rfl
theorem rng_blkN {W : World} {b : Nat} {t : TypeId} {cs : Array Value} (h : Blk W b t cs) : W.rangeAt b 0 cs.toList := by
  intro j v hv
  rw [h.cell, Nat.zero_add]
  simpa using hv
theorem load_net {ops : Array Oper} {rest : List Oper} {op : Oper} {a : Act} {w : World} {Q : Exit → Act → World → Prop} (hgd : op.guard = none) (x : Operand) (ho : op.op = .load 60 x) (b : Nat) (hx : a.eval x = .pointer (some ⟨b, 0, none⟩)) (N : NetD) (na : NetA) (h : Blk w b 60 (netC N na))
    (k : wpList Try.prog ops Q rest (a.put op.dst (.agg (netC N na))) w) : wpList Try.prog ops Q (op :: rest) a w := by
  refine wpList_load_mid hgd 60 x ho b 0 hx (netC N na).toList _ (rng_blkN h) Try.underlying60 rfl infoNet ?_
  rw [Array.toArray_toList]
  exact k
theorem quiet_by3 {P : Program} {ops : Array Oper} {C : World → Prop} {Q : Act → Prop} {o : Oper} {rest : List Oper} {a : Act} (hg : Region.wanted o (yielded ops a.tmps) = true) (v : Value) (h : ∀ u, C u → (execOp a.eval o).run P u = .ok (.value v) u)
    (k : wpQuiet P ops C Q rest (a.put o.dst v)) : wpQuiet P ops C Q (o :: rest) a := by
  unfold wpQuiet
  rw [if_pos hg]
  exact ⟨v, fun u hu => by unfold Oper.quietAt; rw [h u hu]; exact ⟨rfl, rfl⟩, k⟩
theorem quiet_net {ops : Array Oper} {C : World → Prop} {Q : Act → Prop} {o : Oper} {rest : List Oper} {a : Act} (x : Operand) (ho : o.op = .load 60 x) (hg : Region.wanted o (yielded ops a.tmps) = true) (b : Nat) (hx : a.eval x = .pointer (some ⟨b, 0, none⟩)) (N : NetD) (na : NetA)
    (h : ∀ u, C u → Blk u b 60 (netC N na)) (K : wpQuiet Try.prog ops C Q rest (a.put o.dst (.agg (netC N na)))) : wpQuiet Try.prog ops C Q (o :: rest) a :=
  quiet_by3 hg _ (fun u hu => by
    have := run_loadAt_mid (P := Try.prog) u b 0 60 (netC N na).toList _ (rng_blkN (h u hu)) Try.underlying60 rfl infoNet
    unfold execOp
    simp only [ho, hx, Sem.run_bind, this, Result.andThen_ok, Sem.run_pure, Array.toArray_toList]) K
theorem cqa {P : Program} {f : FuncId} {args : Array Value} {v : Value} {w : World} (x : More) (h : Calls P f args (grow w x) fun e w' => e = .returned v ∧ Below (grow w x).heap.size (grow w x) w') : Calls P f args (grow w x) fun e w'' => e = .returned v ∧ ∃ y, w'' = grow w y :=
  h.mono fun e w'' ⟨he, hb⟩ => by
    obtain ⟨y, rfl⟩ := grow_of hb
    exact ⟨he, x.then y, rfl⟩
theorem cqb {P : Program} {f : FuncId} {args : Array Value} {v : Value} {w : World} (x y : More) (h : Calls P f args (grow w (x.then y)) fun e w' => e = .returned v ∧ Below (grow w (x.then y)).heap.size (grow w (x.then y)) w') : Calls P f args (grow w (x.then y)) fun e w'' => e = .returned v ∧ ∃ z, w'' = grow w (x.then z) :=
  h.mono fun e w'' ⟨he, hb⟩ => by
    obtain ⟨z, rfl⟩ := grow_of hb
    exact ⟨he, y.then z, rfl⟩
theorem idx_any (W : World) (A : Option Addr) (c : Nat) (x : List Int) (v : Int) (hA : IL W A x) (hv : v ∈ x) (hl : x.length < 1099511627776) :
    Calls Try.prog 54 #[.slice A x.length c, .int .i64 v] W fun e W' => e = .returned (.int .i64 (x.idxOf v : Int)) ∧ Below W.heap.size W W' := by
  have hi : x.idxOf v < x.length := List.idxOf_lt_length_iff.2 hv
  have hat : x[x.idxOf v] = v := List.getElem_idxOf hi
  have hno : ∀ j (h : j < x.length), j < x.idxOf v → x[j] ≠ v := fun j h hj e => by
    unfold List.idxOf at hj
    have := List.not_of_lt_findIdx hj
    rw [e] at this
    simp at this
  generalize x.idxOf v = p at *
  go_enter Try.func54, Try.ntmps54
  go_wp2
  go_loopw [8] (fun iv wr => ∃ k : Nat, iv = .int .i64 (k : Int) ∧ k ≤ p ∧ Below W.heap.size W wr) (fun iv _ => x.length - (intOf iv).toNat)
  case atStart => exact ⟨0, rfl, by omega, Below.refl _ _⟩
  case round =>
    obtain ⟨k, rfl, hk, hBr⟩ := hrel
    have hlt : k < x.length := by omega
    obtain ⟨b, off, rfl, hb, c0⟩ := (hA.below hBr).at_ k hlt
    have q0 : (0 : Int) ≤ (k : Int) := by omega
    have q1 : (k : Int) < (x.length : Int) := by omega
    by_cases hp : k = p
    · subst hp
      rw [hat] at c0
      clear hat hno
      go_wp2
      go_ret
      exact ⟨rfl, hBr⟩
    · have hne : ¬ v = x[k] := fun e => hno k hlt (by omega) e.symm
      generalize x[k] = y at *
      replace hat := Lib.hid hat
      replace hno := Lib.hid hno
      go_wp2
      go_roundw
      case rel => exact ⟨k + 1, by go_num, by omega, hBr⟩
      case measure => simp [intOf]; omega
end Go.Proofs.Ytpdnaceggpdleab
namespace Go.Proofs.Ytpdnaceggpdleab
open Go.RowKit
set_option linter.unusedVariables false
set_option linter.unusedSimpArgs false
set_option linter.unnecessarySimpa false
set_option maxRecDepth 100000
theorem NetD.around_yes {N : NetD} {v : Nat} (h : N.t.rs.getD v false = true) (h2 : (N.ends (v : Int)).length < 2) : N.around (v : Int) = ((N.t.fans.getD v []).length : Int) := by
  unfold NetD.around
  rw [Int.toNat_natCast, if_pos ⟨h, h2⟩]
theorem NetD.around_no {N : NetD} {v : Nat} (h : N.t.rs.getD v false = false ∨ ¬ (N.ends (v : Int)).length < 2) : N.around (v : Int) = 4 := by
  unfold NetD.around
  rw [Int.toNat_natCast, if_neg]
  rintro ⟨a, b⟩
  rcases h with h | h
  · rw [h] at a; cases a
  · exact h b
theorem NetD.around_bd {N : NetD} (ok : NetOk N) (v : Nat) : 0 ≤ N.around (v : Int) ∧ N.around (v : Int) ≤ 1000000000 := by
  unfold NetD.around
  split
  · rw [Int.toNat_natCast]
    refine ⟨by omega, ?_⟩
    rcases Nat.lt_or_ge v N.t.fans.length with h | h
    · have := ok.fl (N.t.fans.getD v []) (by rw [List.getD_eq_getElem?_getD, List.getElem?_eq_getElem h]; exact List.getElem_mem h)
      omega
    · rw [List.getD_eq_getElem?_getD, List.getElem?_eq_none h]; simp
  · omega
set_option maxHeartbeats 1000000 in
theorem around_any (W : World) (N : NetD) (a : NetA) (hN : NetV W N a) (ok : NetOk N) (v : Nat) (hv : v < N.vs.length) :
    Calls Try.prog 56 #[.agg (netC N a), .int .i64 (v : Int)] W fun e W' => e = .returned (.int .i64 (N.around (v : Int))) ∧ Below W.heap.size W W' := by
  have hb0 : Below W.heap.size W (W.alloc (.cells (netC N a) 60)) := bel_alloc (Below.refl _ _) _
  have hC0 : Blk (W.alloc (.cells (netC N a) 60)) W.heap.size 60 (netC N a) := Blk.new _ _ _ _ rfl
  have hN0 := hN.below hb0
  have hv1 : v < N.t.rs.length := by rw [ok.nr]; exact hv
  have hv2 : v < N.t.fans.length := by rw [ok.nf]; exact hv
  obtain ⟨br, or, hbr, hrl, cr⟩ : ∃ b off, a.B3 = some ⟨b, off, none⟩ ∧ b < (W.alloc (.cells (netC N a) 60)).heap.size ∧ (W.alloc (.cells (netC N a) 60)).cell? ⟨b, off + v, none⟩ = some (.bool N.t.rs[v]) := by
    obtain ⟨b, off, h1, h2, h3⟩ := hN0.rs (by omega)
    exact ⟨b, off, h1, h2, h3 v hv1⟩
  obtain ⟨be, oe, hbe, hel, Be, me, ce, hw⟩ : ∃ b off, a.E = some ⟨b, off, none⟩ ∧ b < (W.alloc (.cells (netC N a) 60)).heap.size ∧ ∃ B m, (W.alloc (.cells (netC N a) 60)).cell? ⟨b, off + v, none⟩ = some (.slice B (N.ends (v : Int)).length m) ∧ _ := by
    obtain ⟨b, off, h1, h2, h3⟩ := hN0.en (by omega)
    obtain ⟨B, m, h4, h5⟩ := h3 v hv
    exact ⟨b, off, h1, h2, B, m, h4, h5⟩
  obtain ⟨bf, of, hbf, hfl, Bf, mf, cf, hf⟩ : ∃ b off, a.B2 = some ⟨b, off, none⟩ ∧ b < (W.alloc (.cells (netC N a) 60)).heap.size ∧ ∃ B m, (W.alloc (.cells (netC N a) 60)).cell? ⟨b, off + v, none⟩ = some (.slice B N.t.fans[v].length m) ∧ _ := by
    obtain ⟨b, off, h1, h2, h3⟩ := hN0.fans (by omega)
    obtain ⟨B, m, h4, h5⟩ := h3 v hv2
    exact ⟨b, off, h1, h2, B, m, h4, h5⟩
  have hy := @NetD.around_yes N v
  have hn := @NetD.around_no N v
  rw [List.getD_eq_getElem?_getD, List.getElem?_eq_getElem hv1] at hy hn
  rw [List.getD_eq_getElem?_getD, List.getElem?_eq_getElem hv2] at hy
  simp only [Option.getD_some] at hy hn
  generalize N.around (v : Int) = AR at *
  generalize N.t.rs[v] = rd at *
  generalize hel2 : (N.ends (v : Int)).length = el at *
  generalize N.t.fans[v].length = fl at *
  have x1 : (W.alloc (.cells (netC N a) 60)).cell? ⟨W.heap.size, 1, none⟩ = some (.slice (some ⟨bf, of, none⟩) N.t.fans.length a.d2) := by rw [← hbf]; exact hC0.cell 1
  have x2 : (W.alloc (.cells (netC N a) 60)).cell? ⟨W.heap.size, 2, none⟩ = some (.slice (some ⟨br, or, none⟩) N.t.rs.length a.d3) := by rw [← hbr]; exact hC0.cell 2
  have x6 : (W.alloc (.cells (netC N a) 60)).cell? ⟨W.heap.size, 6, none⟩ = some (.slice (some ⟨be, oe, none⟩) N.vs.length a.k4) := by rw [← hbe]; exact hC0.cell 6
  have xl := hC0.lt
  have q0 : (0 : Int) ≤ (v : Int) := by omega
  have q1 : (v : Int) < (N.t.rs.length : Int) := by omega
  have q2 : (v : Int) < (N.t.fans.length : Int) := by omega
  have q3 : (v : Int) < (N.vs.length : Int) := by omega
  clear hw hf hel2 hN0 hN hbr hbe hbf
  replace hy := Lib.hid hy
  replace hn := Lib.hid hn
  clear ok
  cases rd
  · obtain rfl := hn.out (.inl rfl)
    go_enter Try.func56, Try.ntmps56
    go_upto_region 1 with (fail)
    generalize W.alloc (.cells (netC N a) 60) = W0 at *
    go_wp2
    go_ret
    exact ⟨rfl, hb0⟩
  · by_cases h2 : el < 2
    · obtain rfl := hy.out rfl h2
      have q4 : (el : Int) < 2 := by omega
      go_enter Try.func56, Try.ntmps56
      go_upto_region 1 with (fail)
      generalize W.alloc (.cells (netC N a) 60) = W0 at *
      go_wp2
      go_ret
      exact ⟨rfl, hb0⟩
    · obtain rfl := hn.out (.inr h2)
      have q4 : ¬ (el : Int) < 2 := by omega
      go_enter Try.func56, Try.ntmps56
      go_upto_region 1 with (fail)
      generalize W.alloc (.cells (netC N a) 60) = W0 at *
      go_wp2
      go_ret
      exact ⟨rfl, hb0⟩
end Go.Proofs.Ytpdnaceggpdleab
