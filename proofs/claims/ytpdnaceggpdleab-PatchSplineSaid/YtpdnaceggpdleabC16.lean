/- Package patch: a face's inner point at a corner. Package patch: a face's inner point at a corner, whole. Package patch: the point on an edge near a vertex. Package patch: rows of weighed points; the inner points at a vertex together. Package patch: the control point at each vertex. Package patch: each vertex's normal. -/
import Derived.Test.YtpdnaceggpdleabC9
import Derived.Test.YtpdnaceggpdleabC11
import Derived.Test.YtpdnaceggpdleabC12
import Derived.Test.YtpdnaceggpdleabC15
namespace Go.Proofs.Ytpdnaceggpdleab
open Go.RowKit
set_option linter.unusedVariables false
set_option linter.unusedSimpArgs false
set_option linter.unnecessarySimpa false
set_option maxRecDepth 100000
theorem IL4 {W : World} {g : Nat} {t : TypeId} {a b c d : Int} (h : Blk W g t #[.int .i64 a, .int .i64 b, .int .i64 c, .int .i64 d]) : IL W (some ⟨g, 0, none⟩) [a, b, c, d] := fun _ => ⟨g, 0, rfl, h.lt, fun i hi => by
  rcases (by simp at hi; omega : i = 0 ∨ i = 1 ∨ i = 2 ∨ i = 3) with rfl | rfl | rfl | rfl
  · exact h.cell 0
  · exact h.cell 1
  · exact h.cell 2
  · exact h.cell 3⟩
theorem cell4 {W : World} {g : Nat} {t : TypeId} {a b c d : Int} (h : Blk W g t #[.int .i64 a, .int .i64 b, .int .i64 c, .int .i64 d]) {m : Nat} (hm : m < 4) : W.cell? ⟨g, m, none⟩ = some (.int .i64 ([a, b, c, d].getD m 0)) := by
  rcases (by omega : m = 0 ∨ m = 1 ∨ m = 2 ∨ m = 3) with rfl | rfl | rfl | rfl
  · exact h.cell 0
  · exact h.cell 1
  · exact h.cell 2
  · exact h.cell 3
/-- A vertex's three cells. -/
theorem VL.vat_ {W : World} {A : Option Addr} {vs : List P3} (h : VL W A vs) {y : Int} (h0 : 0 ≤ y) (h1 : y < vs.length) : ∃ (n : Nat) (b off : Nat), y = (n : Int) ∧ n < vs.length ∧ A = some ⟨b, off, none⟩ ∧ b < W.heap.size ∧ W.cell? ⟨b, off + n * 3, none⟩ = some (.int .i64 (vat vs y).x) ∧ W.cell? ⟨b, off + n * 3 + 1, none⟩ = some (.int .i64 (vat vs y).y) ∧ W.cell? ⟨b, off + n * 3 + 2, none⟩ = some (.int .i64 (vat vs y).z) := by
  obtain ⟨n, rfl⟩ := Int.eq_ofNat_of_zero_le h0
  have hn : n < vs.length := by omega
  obtain ⟨b, off, e, hb, c⟩ := h.at_ n hn
  rw [← vat_get hn] at c
  exact ⟨n, b, off, rfl, hn, e, hb, c⟩
set_option maxHeartbeats 1000000 in
theorem corn_any (W : World) (N : NetD) (a : NetA) (gn gf gh : Nat) (x0 x1 x2 x3 h ahead times : Int) (m : Nat) (hB : Blk W gn 60 (netC N a)) (hF : Blk W gf 36 #[.int .i64 x0, .int .i64 x1, .int .i64 x2, .int .i64 x3]) (hH : Blk W gh 3 #[.int .i64 h]) (hN : NetV W N a)
    (h0 : 0 ≤ h ∧ h < 4) (a0 : 0 ≤ ahead ∧ ahead < 4) (hm : (h + ahead).tmod 4 = (m : Int)) (hm4 : m < 4) (hy : 0 ≤ [x0, x1, x2, x3].getD m 0 ∧ [x0, x1, x2, x3].getD m 0 < N.vs.length) :
    Calls Try.prog 55 #[.int .i64 ahead, .int .i64 times, .pointer (some ⟨gn, 0, none⟩), .pointer (some ⟨gf, 0, none⟩), .pointer (some ⟨gh, 0, none⟩)] W fun e W' => e = .returned (.agg #[.int .i64 (vat N.vs ([x0, x1, x2, x3].getD m 0)).x, .int .i64 (vat N.vs ([x0, x1, x2, x3].getD m 0)).y, .int .i64 (vat N.vs ([x0, x1, x2, x3].getD m 0)).z, .int .i64 times]) ∧ Below W.heap.size W W' := by
  have cf := cell4 hF hm4
  generalize [x0, x1, x2, x3].getD m 0 = y at *
  obtain ⟨n, bv, ov, rfl, hn, hA, hbl, c0, c1, c2⟩ := hN.vs.vat_ hy.1 hy.2
  have y3 : W.cell? ⟨gn, 3, none⟩ = some (.slice (some ⟨bv, ov, none⟩) N.vs.length a.k1) := by rw [← hA]; exact hB.cell 3
  have z0 := hH.cell 0
  have hl := hH.lt
  have fl := hF.lt
  have nl := hB.lt
  generalize vat N.vs (n : Int) = p at *
  have hb1 : Below W.heap.size W (W.alloc (.cells #[.int .i64 0, .int .i64 0, .int .i64 0, .int .i64 0] 82)) := bel_alloc (Below.refl _ _) _
  have hR1 : Blk (W.alloc (.cells #[.int .i64 0, .int .i64 0, .int .i64 0, .int .i64 0] 82)) W.heap.size 82 #[.int .i64 0, .int .i64 0, .int .i64 0, .int .i64 0] := Blk.new _ _ _ _ rfl
  have tr := fun (b j : Nat) (v : Value) (hb : b < W.heap.size) (h : W.cell? ⟨b, j, none⟩ = some v) => (hb1.cell (p := ⟨b, j, none⟩) hb).trans h
  replace cf := tr _ _ _ fl cf
  replace c0 := tr _ _ _ hbl c0
  replace c1 := tr _ _ _ hbl c1
  replace c2 := tr _ _ _ hbl c2
  replace y3 := tr _ _ _ nl y3
  replace z0 : (W.alloc (.cells #[.int .i64 0, .int .i64 0, .int .i64 0, .int .i64 0] 82)).cell? ⟨gh, 0, none⟩ = some (.int .i64 h) := tr _ _ _ hl z0
  have q0 : (0 : Int) ≤ (m : Int) := by omega
  have q1 : (m : Int) < 4 := by omega
  have q2 : (0 : Int) ≤ (n : Int) := by omega
  have q3 : (n : Int) < (N.vs.length : Int) := by omega
  obtain ⟨h00, h01⟩ := h0
  obtain ⟨a00, a01⟩ := a0
  clear hy hA hB hF hH hN tr
  go_enter Try.func55, Try.ntmps55
  go_upto_region 1 with (fail)
  generalize W.alloc (.cells #[.int .i64 0, .int .i64 0, .int .i64 0, .int .i64 0] 82) = W1 at *
  have l1 : gh < W1.heap.size := Nat.lt_of_lt_of_le hl hb1.size
  have l2 : gf < W1.heap.size := Nat.lt_of_lt_of_le fl hb1.size
  have l3 : gn < W1.heap.size := Nat.lt_of_lt_of_le nl hb1.size
  have l4 : bv < W1.heap.size := Nat.lt_of_lt_of_le hbl hb1.size
  refine wp_region_tail 12 ?_ (by kernel_rfl) (by kernel_rfl) (by kernel_rfl) (fun x => ?_) (fun x => ?_)
  rotate_left
  · simp only [List.take_succ_cons, List.take_zero]
    repeat (go_big_quiet_step (((fail))))
    refine wpQuiet_nil ?_
    exact rfl
  simp only [List.drop_succ_cons, List.drop_zero]
  try simp only [Act.put, List.setIfInBounds_toArray, List.set_cons_succ, List.set_cons_zero]
  have hR2 := hR1.grow x
  have hb2 := bel_grow hb1 x
  clear hR1 hb1 cf c0 c1 c2 y3 z0 l1 l2 l3 l4
  generalize grow W1 x = W2 at *
  have r0 := hR2.cell 0
  have r1 := hR2.cell 1
  have r2 := hR2.cell 2
  have r3 := hR2.cell 3
  have rl := hR2.lt
  have e0 := hR2.frozen 0
  have e1 := hR2.frozen 1
  have e2 := hR2.frozen 2
  have e3 := hR2.frozen 3
  have hR3 := (((hR2.set 0 (.int .i64 p.x)).set 1 (.int .i64 p.y)).set 2 (.int .i64 p.z)).set 3 (.int .i64 times)
  have hb3 := bel_set (bel_set (bel_set (bel_set hb2 (p := ⟨W.heap.size, 0, none⟩) (by simp) (.int .i64 p.x)) (p := ⟨W.heap.size, 1, none⟩) (by simp) (.int .i64 p.y)) (p := ⟨W.heap.size, 2, none⟩) (by simp) (.int .i64 p.z)) (p := ⟨W.heap.size, 3, none⟩) (by simp) (.int .i64 times)
  clear hR2 hb2
  replace hR3 := Lib.hid hR3
  replace hb3 := Lib.hid hb3
  go_wp2
  replace hR3 := hR3.out
  replace hb3 := hb3.out
  generalize (((W2.setCell ⟨W.heap.size, 0, none⟩ (.int .i64 p.x)).setCell ⟨W.heap.size, 1, none⟩ (.int .i64 p.y)).setCell ⟨W.heap.size, 2, none⟩ (.int .i64 p.z)).setCell ⟨W.heap.size, 3, none⟩ (.int .i64 times) = W3 at *
  have w0 : W3.cell? ⟨W.heap.size, 0, none⟩ = some (.int .i64 p.x) := hR3.cell 0
  have w1 : W3.cell? ⟨W.heap.size, 1, none⟩ = some (.int .i64 p.y) := hR3.cell 1
  have w2 : W3.cell? ⟨W.heap.size, 2, none⟩ = some (.int .i64 p.z) := hR3.cell 2
  have w3 : W3.cell? ⟨W.heap.size, 3, none⟩ = some (.int .i64 times) := hR3.cell 3
  refine bodyPost_ret (v := .agg #[.int .i64 p.x, .int .i64 p.y, .int .i64 p.z, .int .i64 times]) (by simp [results, Try.results55, go_sem, w0, w1, w2, w3]) rfl ⟨rfl, hb3⟩
end Go.Proofs.Ytpdnaceggpdleab
namespace Go.Proofs.Ytpdnaceggpdleab
open Go.RowKit
set_option linter.unusedVariables false
set_option linter.unusedSimpArgs false
set_option linter.unnecessarySimpa false
set_option maxRecDepth 100000
theorem four_of {x : List Int} (h : x.length = 4) : ∃ a b c d, x = [a, b, c, d] := by
  match x, h with
  | [a, b, c, d], _ => exact ⟨a, b, c, d, rfl⟩
theorem WL4 {W : World} {g : Nat} {t : TypeId} {p q r s : P3} {n1 n2 n3 n4 : Int} (h : Blk W g t #[.int .i64 p.x, .int .i64 p.y, .int .i64 p.z, .int .i64 n1, .int .i64 q.x, .int .i64 q.y, .int .i64 q.z, .int .i64 n2, .int .i64 r.x, .int .i64 r.y, .int .i64 r.z, .int .i64 n3, .int .i64 s.x, .int .i64 s.y, .int .i64 s.z, .int .i64 n4]) : WL W (some ⟨g, 0, none⟩) [(p, n1), (q, n2), (r, n3), (s, n4)] := fun _ => ⟨g, 0, rfl, h.lt, fun i hi => by
  rcases (by simp at hi; omega : i = 0 ∨ i = 1 ∨ i = 2 ∨ i = 3) with rfl | rfl | rfl | rfl
  · exact ⟨h.cell 0, h.cell 1, h.cell 2, h.cell 3⟩
  · exact ⟨h.cell 4, h.cell 5, h.cell 6, h.cell 7⟩
  · exact ⟨h.cell 8, h.cell 9, h.cell 10, h.cell 11⟩
  · exact ⟨h.cell 12, h.cell 13, h.cell 14, h.cell 15⟩⟩
theorem WL2 {W : World} {g : Nat} {t : TypeId} {p q : P3} {n1 n2 : Int} (h : Blk W g t #[.int .i64 p.x, .int .i64 p.y, .int .i64 p.z, .int .i64 n1, .int .i64 q.x, .int .i64 q.y, .int .i64 q.z, .int .i64 n2]) : WL W (some ⟨g, 0, none⟩) [(p, n1), (q, n2)] := fun _ => ⟨g, 0, rfl, h.lt, fun i hi => by
  rcases (by simp at hi; omega : i = 0 ∨ i = 1) with rfl | rfl
  · exact ⟨h.cell 0, h.cell 1, h.cell 2, h.cell 3⟩
  · exact ⟨h.cell 4, h.cell 5, h.cell 6, h.cell 7⟩⟩
theorem inner_eq {N : NetD} {f : Nat} (hf : f < N.fs.length) (v : Int) : N.inner (f : Int) v = meanP (N.around v + 5) [(vat N.vs (cornA N.fs[f] v 0), N.around v), (vat N.vs (cornA N.fs[f] v 1), 2), (vat N.vs (cornA N.fs[f] v 2), 1), (vat N.vs (cornA N.fs[f] v 3), 2)] := by
  unfold NetD.inner
  simp only [Int.toNat_natCast, List.getD_eq_getElem?_getD, List.getElem?_eq_getElem hf, Option.getD_some]
theorem tm4 {h k : Nat} : ((h : Int) + (k : Int)).tmod 4 = (((h + k) % 4 : Nat) : Int) := by
  rw [Int.tmod_eq_emod_of_nonneg (by omega)]; omega
set_option maxHeartbeats 2000000 in
theorem inner_any (W : World) (N : NetD) (a : NetA) (hN : NetV W N a) (ok : NetOk N) (f v : Nat) (hf : f < N.fs.length) (hv : v < N.vs.length) (hm : (v : Int) ∈ N.fs[f]) :
    Calls Try.prog 34 #[.agg (netC N a), .int .i64 (f : Int), .int .i64 (v : Int)] W fun e W' => e = .returned (.agg #[.int .i64 (N.inner (f : Int) (v : Int)).x, .int .i64 (N.inner (f : Int) (v : Int)).y, .int .i64 (N.inner (f : Int) (v : Int)).z]) ∧ Below W.heap.size W W' := by
  have hie := inner_eq hf (v : Int)
  obtain ⟨h4, hin⟩ := ok.four _ (List.getElem_mem hf)
  obtain ⟨bq, oq, hbq, hql, hqc⟩ : ∃ b off, a.Q = some ⟨b, off, none⟩ ∧ b < W.heap.size ∧ ∀ k, k < 4 → W.cell? ⟨b, off + f * 4 + k, none⟩ = some (.int .i64 (N.fs[f].getD k 0)) := by
    obtain ⟨b, off, h1, h2, h3⟩ := hN.fs (by omega)
    exact ⟨b, off, h1, h2, fun k hk => h3 f hf k hk⟩
  have hil : (N.fs[f]).idxOf (v : Int) < 4 := by rw [← h4]; exact List.idxOf_lt_length_iff.2 hm
  obtain ⟨x0, x1, x2, x3, hx⟩ := four_of h4
  rw [hx] at hie hin hqc hil hm
  have c0 := hqc 0 (by omega)
  have c1 := hqc 1 (by omega)
  have c2 := hqc 2 (by omega)
  have c3 := hqc 3 (by omega)
  simp only [List.getD_cons_zero, List.getD_cons_succ, Nat.add_zero] at c0 c1 c2 c3
  clear hqc h4 hx
  have hba := NetD.around_bd ok v
  have kA := fun (u : World) (hu : NetV u N a) => around_any u N a hu ok v hv
  have kI := fun (u : World) (g : Nat) (t : TypeId) (hu : Blk u g t #[.int .i64 x0, .int .i64 x1, .int .i64 x2, .int .i64 x3]) => idx_any u (some ⟨g, 0, none⟩) 4 [x0, x1, x2, x3] (v : Int) (IL4 hu) hm (by simp)
  have hyr : ∀ m, m < 4 → 0 ≤ [x0, x1, x2, x3].getD m 0 ∧ [x0, x1, x2, x3].getD m 0 < N.vs.length := fun m hm => hin _ (by rw [List.getD_eq_getElem?_getD, List.getElem?_eq_getElem (by simpa using hm)]; exact List.getElem_mem _)
  unfold cornA at hie
  generalize [x0, x1, x2, x3].idxOf (v : Int) = h at *
  have kC := fun (u : World) (gn gf gh : Nat) (k : Nat) (hk : k < 4) (times : Int) (hB : Blk u gn 60 (netC N a)) (hF : Blk u gf 36 #[.int .i64 x0, .int .i64 x1, .int .i64 x2, .int .i64 x3]) (hH : Blk u gh 3 #[.int .i64 (h : Int)]) (hu : NetV u N a) => corn_any u N a gn gf gh x0 x1 x2 x3 (h : Int) (k : Int) times ((h + k) % 4) hB hF hH hu (by omega) (by omega) tm4 (by omega) (hyr _ (by omega))
  have kC0 : ∀ (u : World) (gn gf gh : Nat) (times : Int), Blk u gn 60 (netC N a) → Blk u gf 36 #[.int .i64 x0, .int .i64 x1, .int .i64 x2, .int .i64 x3] → Blk u gh 3 #[.int .i64 (h : Int)] → NetV u N a → Calls Try.prog 55 #[.int .i64 0, .int .i64 times, .pointer (some ⟨gn, 0, none⟩), .pointer (some ⟨gf, 0, none⟩), .pointer (some ⟨gh, 0, none⟩)] u fun e W' => e = .returned (.agg #[.int .i64 (vat N.vs ([x0, x1, x2, x3].getD ((h + 0) % 4) 0)).x, .int .i64 (vat N.vs ([x0, x1, x2, x3].getD ((h + 0) % 4) 0)).y, .int .i64 (vat N.vs ([x0, x1, x2, x3].getD ((h + 0) % 4) 0)).z, .int .i64 times]) ∧ Below u.heap.size u W' := fun u gn gf gh times hB hF hH hu => kC u gn gf gh 0 (by omega) times hB hF hH hu
  have kC1 : ∀ (u : World) (gn gf gh : Nat) (times : Int), Blk u gn 60 (netC N a) → Blk u gf 36 #[.int .i64 x0, .int .i64 x1, .int .i64 x2, .int .i64 x3] → Blk u gh 3 #[.int .i64 (h : Int)] → NetV u N a → Calls Try.prog 55 #[.int .i64 1, .int .i64 times, .pointer (some ⟨gn, 0, none⟩), .pointer (some ⟨gf, 0, none⟩), .pointer (some ⟨gh, 0, none⟩)] u fun e W' => e = .returned (.agg #[.int .i64 (vat N.vs ([x0, x1, x2, x3].getD ((h + 1) % 4) 0)).x, .int .i64 (vat N.vs ([x0, x1, x2, x3].getD ((h + 1) % 4) 0)).y, .int .i64 (vat N.vs ([x0, x1, x2, x3].getD ((h + 1) % 4) 0)).z, .int .i64 times]) ∧ Below u.heap.size u W' := fun u gn gf gh times hB hF hH hu => kC u gn gf gh 1 (by omega) times hB hF hH hu
  have kC2 : ∀ (u : World) (gn gf gh : Nat) (times : Int), Blk u gn 60 (netC N a) → Blk u gf 36 #[.int .i64 x0, .int .i64 x1, .int .i64 x2, .int .i64 x3] → Blk u gh 3 #[.int .i64 (h : Int)] → NetV u N a → Calls Try.prog 55 #[.int .i64 2, .int .i64 times, .pointer (some ⟨gn, 0, none⟩), .pointer (some ⟨gf, 0, none⟩), .pointer (some ⟨gh, 0, none⟩)] u fun e W' => e = .returned (.agg #[.int .i64 (vat N.vs ([x0, x1, x2, x3].getD ((h + 2) % 4) 0)).x, .int .i64 (vat N.vs ([x0, x1, x2, x3].getD ((h + 2) % 4) 0)).y, .int .i64 (vat N.vs ([x0, x1, x2, x3].getD ((h + 2) % 4) 0)).z, .int .i64 times]) ∧ Below u.heap.size u W' := fun u gn gf gh times hB hF hH hu => kC u gn gf gh 2 (by omega) times hB hF hH hu
  have kC3 : ∀ (u : World) (gn gf gh : Nat) (times : Int), Blk u gn 60 (netC N a) → Blk u gf 36 #[.int .i64 x0, .int .i64 x1, .int .i64 x2, .int .i64 x3] → Blk u gh 3 #[.int .i64 (h : Int)] → NetV u N a → Calls Try.prog 55 #[.int .i64 3, .int .i64 times, .pointer (some ⟨gn, 0, none⟩), .pointer (some ⟨gf, 0, none⟩), .pointer (some ⟨gh, 0, none⟩)] u fun e W' => e = .returned (.agg #[.int .i64 (vat N.vs ([x0, x1, x2, x3].getD ((h + 3) % 4) 0)).x, .int .i64 (vat N.vs ([x0, x1, x2, x3].getD ((h + 3) % 4) 0)).y, .int .i64 (vat N.vs ([x0, x1, x2, x3].getD ((h + 3) % 4) 0)).z, .int .i64 times]) ∧ Below u.heap.size u W' := fun u gn gf gh times hB hF hH hu => kC u gn gf gh 3 (by omega) times hB hF hH hu
  clear kC hyr hin
  generalize vat N.vs ([x0, x1, x2, x3].getD ((h + 0) % 4) 0) = p0 at *
  generalize vat N.vs ([x0, x1, x2, x3].getD ((h + 1) % 4) 0) = p1 at *
  generalize vat N.vs ([x0, x1, x2, x3].getD ((h + 2) % 4) 0) = p2 at *
  generalize vat N.vs ([x0, x1, x2, x3].getD ((h + 3) % 4) 0) = p3 at *
  generalize N.around (v : Int) = AR at *
  generalize N.inner (f : Int) (v : Int) = RR at *
  have kM := fun (u : World) (g : Nat) (hu : Blk u g 82 #[.int .i64 p0.x, .int .i64 p0.y, .int .i64 p0.z, .int .i64 AR, .int .i64 p1.x, .int .i64 p1.y, .int .i64 p1.z, .int .i64 2, .int .i64 p2.x, .int .i64 p2.y, .int .i64 p2.z, .int .i64 1, .int .i64 p3.x, .int .i64 p3.y, .int .i64 p3.z, .int .i64 2]) => mean_any u (AR + 5) (some ⟨g, 0, none⟩) 4 [(p0, AR), (p1, 2), (p2, 1), (p3, 2)] (WL4 hu) (by unfold i64B; omega) (by simp)
  rw [← hie] at kM
  clear hie
  replace kM : ∀ (u : World) (g : Nat), Blk u g 82 #[.int .i64 p0.x, .int .i64 p0.y, .int .i64 p0.z, .int .i64 AR, .int .i64 p1.x, .int .i64 p1.y, .int .i64 p1.z, .int .i64 2, .int .i64 p2.x, .int .i64 p2.y, .int .i64 p2.z, .int .i64 1, .int .i64 p3.x, .int .i64 p3.y, .int .i64 p3.z, .int .i64 2] → Calls Try.prog 27 #[.int .i64 (AR + 5), .slice (some ⟨g, 0, none⟩) 4 4] u fun e W' => e = .returned (.agg #[.int .i64 RR.x, .int .i64 RR.y, .int .i64 RR.z]) ∧ Below u.heap.size u W' := kM
  replace kI : ∀ (u : World) (g : Nat) (t : TypeId), Blk u g t #[.int .i64 x0, .int .i64 x1, .int .i64 x2, .int .i64 x3] → Calls Try.prog 54 #[.slice (some ⟨g, 0, none⟩) 4 4, .int .i64 (v : Int)] u fun e W' => e = .returned (.int .i64 (h : Int)) ∧ Below u.heap.size u W' := kI
  have hb0 : Below W.heap.size W ((W.alloc (.cells (netC N a) 60)).alloc (.cells #[.int .i64 0, .int .i64 0, .int .i64 0] 30)) := bel_alloc (bel_alloc (Below.refl _ _) _) _
  have hC0 : Blk ((W.alloc (.cells (netC N a) 60)).alloc (.cells #[.int .i64 0, .int .i64 0, .int .i64 0] 30)) W.heap.size 60 (netC N a) := (Blk.new _ _ _ _ rfl).alloc _
  have hR0 : Blk ((W.alloc (.cells (netC N a) 60)).alloc (.cells #[.int .i64 0, .int .i64 0, .int .i64 0] 30)) (W.heap.size + 1) 30 #[.int .i64 0, .int .i64 0, .int .i64 0] := Blk.new _ _ _ _ (by simp)
  have tr := fun (b j : Nat) (v : Value) (hb : b < W.heap.size) (h : W.cell? ⟨b, j, none⟩ = some v) => (hb0.cell (p := ⟨b, j, none⟩) hb).trans h
  replace c0 := tr _ _ _ hql c0
  replace c1 := tr _ _ _ hql c1
  replace c2 := tr _ _ _ hql c2
  replace c3 := tr _ _ _ hql c3
  replace hql := Nat.lt_of_lt_of_le hql hb0.size
  have hN0 := hN.below hb0
  clear tr hN hm
  go_enter Try.func34, Try.ntmps34
  go_upto_region 1 with (fail)
  generalize (W.alloc (.cells (netC N a) 60)).alloc (.cells #[.int .i64 0, .int .i64 0, .int .i64 0] 30) = W0 at *
  have y4 : W0.cell? ⟨W.heap.size, 4, none⟩ = some (.slice (some ⟨bq, oq, none⟩) N.fs.length a.k2) := by rw [← hbq]; exact hC0.cell 4
  have yl := hC0.lt
  have q0 : (0 : Int) ≤ (f : Int) := by omega
  have q1 : (f : Int) < (N.fs.length : Int) := by omega
  clear hbq
  go_upto_region 2 with (fail)
  have hb1 : Below W.heap.size W (W0.alloc (.cells #[.int .i64 x0, .int .i64 x1, .int .i64 x2, .int .i64 x3] 36)) := bel_alloc hb0 _
  have hC1 := hC0.alloc (.cells #[.int .i64 x0, .int .i64 x1, .int .i64 x2, .int .i64 x3] 36)
  have hR1 := hR0.alloc (.cells #[.int .i64 x0, .int .i64 x1, .int .i64 x2, .int .i64 x3] 36)
  have hF1 : Blk (W0.alloc (.cells #[.int .i64 x0, .int .i64 x1, .int .i64 x2, .int .i64 x3] 36)) W0.heap.size 36 #[.int .i64 x0, .int .i64 x1, .int .i64 x2, .int .i64 x3] := Blk.new _ _ _ _ rfl
  have hN1 := hN0.below (bel_alloc (Below.refl _ _) (.cells #[.int .i64 x0, .int .i64 x1, .int .i64 x2, .int .i64 x3] 36))
  clear hb0 hC0 hR0 hN0 c0 c1 c2 c3 y4 yl hql
  generalize W0.alloc (.cells #[.int .i64 x0, .int .i64 x1, .int .i64 x2, .int .i64 x3] 36) = W1 at *
  generalize W0.heap.size = gf at *
  go_upto_region 3 with (first | (go_at_call 54; (with_reducible refine (kI _ _ _ hF1).mono ?_); rintro e W2 ⟨rfl, hb2⟩) | fail)
  rename World => W2
  have hb3 : Below W.heap.size W (W2.alloc (.cells #[.int .i64 (h : Int)] 3)) := bel_alloc (bel_trans hb1 hb2) _
  have hC3 := (hC1.below hb2).alloc (.cells #[.int .i64 (h : Int)] 3)
  have hR3 := (hR1.below hb2).alloc (.cells #[.int .i64 (h : Int)] 3)
  have hF3 := (hF1.below hb2).alloc (.cells #[.int .i64 (h : Int)] 3)
  have hH3 : Blk (W2.alloc (.cells #[.int .i64 (h : Int)] 3)) W2.heap.size 3 #[.int .i64 (h : Int)] := Blk.new _ _ _ _ rfl
  have hN3 := (hN1.below hb2).below (bel_alloc (Below.refl _ _) (.cells #[.int .i64 (h : Int)] 3))
  clear hb1 hC1 hR1 hF1 hN1 hb2 kI
  generalize W2.alloc (.cells #[.int .i64 (h : Int)] 3) = W3 at *
  generalize W2.heap.size = gh at *
  go_upto_region 5 with (first | ((refine load_net rfl _ rfl W.heap.size rfl N a hC3 ?_); simp only [Act.put, List.setIfInBounds_toArray, List.set_cons_succ, List.set_cons_zero]) | (go_at_call 56; (with_reducible refine (kA _ hN3).mono ?_); rintro e W4 ⟨rfl, hb9⟩) | fail)
  rename World => W4
  have hb4 := bel_trans hb3 hb9
  have hC4 := hC3.below hb9
  have hR4 := hR3.below hb9
  have hF4 := hF3.below hb9
  have hH4 := hH3.below hb9
  have hN4 := hN3.below hb9
  clear hb3 hC3 hR3 hF3 hH3 hN3 kA hb9
  go_wp2_with (first | (go_at_call 55; first | ((with_reducible refine (kC0 _ _ _ _ _ hC4 hF4 hH4 hN4).mono ?_); rintro e W5 ⟨rfl, hb5⟩; have hC5 := hC4.below hb5; have hF5 := hF4.below hb5; have hH5 := hH4.below hb5; have hN5 := hN4.below hb5; have hR5 := hR4.below hb5; have hB5 := bel_trans hb4 hb5; clear hb4 hb5 hC4 hF4 hH4 hN4 hR4) | ((with_reducible refine (kC1 _ _ _ _ _ hC5 hF5 hH5 hN5).mono ?_); rintro e W6 ⟨rfl, hb6⟩; have hC6 := hC5.below hb6; have hF6 := hF5.below hb6; have hH6 := hH5.below hb6; have hN6 := hN5.below hb6; have hR6 := hR5.below hb6; have hB6 := bel_trans hB5 hb6; clear hB5 hb6 hC5 hF5 hH5 hN5 hR5) | ((with_reducible refine (kC2 _ _ _ _ _ hC6 hF6 hH6 hN6).mono ?_); rintro e W7 ⟨rfl, hb7⟩; have hC7 := hC6.below hb7; have hF7 := hF6.below hb7; have hH7 := hH6.below hb7; have hN7 := hN6.below hb7; have hR7 := hR6.below hb7; have hB7 := bel_trans hB6 hb7; clear hB6 hb7 hC6 hF6 hH6 hN6 hR6) | ((with_reducible refine (kC3 _ _ _ _ _ hC7 hF7 hH7 hN7).mono ?_); rintro e W8 ⟨rfl, hb8⟩; have hR8 := hR7.below hb8; have hB8 := bel_trans hB7 hb8; clear hB7 hb8 hC7 hF7 hH7 hN7 hR7)) | (go_at_call 27; (with_reducible refine (kM _ _ (Blk.new _ _ _ _ rfl)).mono ?_); rintro e W9 ⟨rfl, hb9⟩; have hR9 := (hR8.alloc (.cells #[.int .i64 p0.x, .int .i64 p0.y, .int .i64 p0.z, .int .i64 AR, .int .i64 p1.x, .int .i64 p1.y, .int .i64 p1.z, .int .i64 2, .int .i64 p2.x, .int .i64 p2.y, .int .i64 p2.z, .int .i64 1, .int .i64 p3.x, .int .i64 p3.y, .int .i64 p3.z, .int .i64 2] 82)).below hb9; have hB9 := bel_trans (bel_alloc hB8 (.cells #[.int .i64 p0.x, .int .i64 p0.y, .int .i64 p0.z, .int .i64 AR, .int .i64 p1.x, .int .i64 p1.y, .int .i64 p1.z, .int .i64 2, .int .i64 p2.x, .int .i64 p2.y, .int .i64 p2.z, .int .i64 1, .int .i64 p3.x, .int .i64 p3.y, .int .i64 p3.z, .int .i64 2] 82)) hb9; clear hR8 hB8 hb9; have rl := hR9.lt; have r0 := hR9.cell 0; have r1 := hR9.cell 1; have r2 := hR9.cell 2; have f0 := hR9.frozen 0; have f1 := hR9.frozen 1; have f2 := hR9.frozen 2) | fail)
  have hRe := (((hR9.set 0 (.int .i64 RR.x)).set 1 (.int .i64 RR.y)).set 2 (.int .i64 RR.z))
  have hBe : Below W.heap.size W (((W9.setCell ⟨W.heap.size + 1, 0, none⟩ (.int .i64 RR.x)).setCell ⟨W.heap.size + 1, 1, none⟩ (.int .i64 RR.y)).setCell ⟨W.heap.size + 1, 2, none⟩ (.int .i64 RR.z)) := (bel_set (bel_set (bel_set hB9 (p := ⟨W.heap.size + 1, 0, none⟩) (by simp) (.int .i64 RR.x)) (p := ⟨W.heap.size + 1, 1, none⟩) (by simp) (.int .i64 RR.y)) (p := ⟨W.heap.size + 1, 2, none⟩) (by simp) (.int .i64 RR.z))
  generalize (((W9.setCell ⟨W.heap.size + 1, 0, none⟩ (.int .i64 RR.x)).setCell ⟨W.heap.size + 1, 1, none⟩ (.int .i64 RR.y)).setCell ⟨W.heap.size + 1, 2, none⟩ (.int .i64 RR.z)) = We at *
  have we0 : We.cell? ⟨W.heap.size + 1, 0, none⟩ = some (.int .i64 RR.x) := hRe.cell 0
  have we1 : We.cell? ⟨W.heap.size + 1, 1, none⟩ = some (.int .i64 RR.y) := hRe.cell 1
  have we2 : We.cell? ⟨W.heap.size + 1, 2, none⟩ = some (.int .i64 RR.z) := hRe.cell 2
  refine bodyPost_ret (v := .agg #[.int .i64 RR.x, .int .i64 RR.y, .int .i64 RR.z]) (by simp [results, Try.results34, go_sem, we0, we1, we2]) rfl ⟨rfl, hBe⟩
end Go.Proofs.Ytpdnaceggpdleab
namespace Go.Proofs.Ytpdnaceggpdleab
open Go.RowKit
set_option linter.unusedVariables false
set_option linter.unusedSimpArgs false
set_option linter.unnecessarySimpa false
set_option maxRecDepth 100000
theorem near_sharp {N : NetD} {v w : Int} {s : Int} (h : N.sh.getD (eix N.t.es v w) 0 = s) (hs : s ≠ 0) : N.near v w = meanP 3 [(vat N.vs v, 2), (vat N.vs w, 1)] := by
  unfold NetD.near
  rw [h, if_neg hs]
theorem near_soft {N : NetD} {v w : Int} {e : Ed} (h : N.sh.getD (eix N.t.es v w) 0 = 0) (he : N.t.es.getD (eix N.t.es v w) ⟨0, 0, 0, 0⟩ = e) : N.near v w = meanP 2 [(N.inner e.f v, 1), (N.inner e.g v, 1)] := by
  unfold NetD.near
  rw [h, he, if_pos rfl]
set_option maxHeartbeats 2000000 in
theorem near_any (W : World) (N : NetD) (a : NetA) (hN : NetV W N a) (ok : NetOk N) (v u : Nat) (hv : v < N.vs.length) (hu : u < N.vs.length) (hi : eix N.t.es (v : Int) (u : Int) < N.t.es.length) :
    Calls Try.prog 35 #[.agg (netC N a), .int .i64 (v : Int), .int .i64 (u : Int)] W fun e W' => e = .returned (.agg #[.int .i64 (N.near (v : Int) (u : Int)).x, .int .i64 (N.near (v : Int) (u : Int)).y, .int .i64 (N.near (v : Int) (u : Int)).z]) ∧ Below W.heap.size W W' := by
  have hns : eix N.t.es (v : Int) (u : Int) < N.sh.length := by rw [ok.ns]; exact hi
  have hsg : N.sh.getD (eix N.t.es (v : Int) (u : Int)) 0 = N.sh[eix N.t.es (v : Int) (u : Int)] := by rw [List.getD_eq_getElem?_getD, List.getElem?_eq_getElem hns]; rfl
  have heg : N.t.es.getD (eix N.t.es (v : Int) (u : Int)) ⟨0, 0, 0, 0⟩ = N.t.es[eix N.t.es (v : Int) (u : Int)] := by rw [List.getD_eq_getElem?_getD, List.getElem?_eq_getElem hi]; rfl
  have hat : N.t.es[eix N.t.es (v : Int) (u : Int)].a = min (v : Int) (u : Int) ∧ N.t.es[eix N.t.es (v : Int) (u : Int)].b = max (v : Int) (u : Int) := by
    have := List.findIdx_getElem (w := hi)
    simp only [Bool.and_eq_true, beq_iff_eq] at this
    exact this
  have hsoft := ok.soft (N.t.es[eix N.t.es (v : Int) (u : Int)], N.sh[eix N.t.es (v : Int) (u : Int)]) (by
    have hz : eix N.t.es (v : Int) (u : Int) < (N.t.es.zip N.sh).length := by rw [List.length_zip]; omega
    have := List.getElem_mem hz
    rwa [List.getElem_zip] at this)
  have hys := @near_sharp N (v : Int) (u : Int) _ hsg
  have hyo := fun h => @near_soft N (v : Int) (u : Int) _ (hsg.trans h) heg
  simp only [] at hsoft
  have kF := fun (x : World) (hE : EL x a.B1 N.t.es) => find_any x a.B1 a.B2 a.B3 N.t.fans.length N.t.rs.length a.d1 a.d2 a.d3 N.t.es (v : Int) (u : Int) hE (by have := ok.nes; omega) ok.sorted
  replace kF : ∀ x : World, EL x a.B1 N.t.es → Calls Try.prog 50 #[.agg #[.slice a.B1 N.t.es.length a.d1, .slice a.B2 N.t.fans.length a.d2, .slice a.B3 N.t.rs.length a.d3], .int .i64 (v : Int), .int .i64 (u : Int)] x fun e W' => e = .returned (.tuple #[.int .i64 (eix N.t.es (v : Int) (u : Int) : Nat), .bool true]) ∧ Below x.heap.size x W' := fun x hE => (kF x hE).mono fun e W' ⟨k, b, he, hf, hb⟩ => by
    rcases find_eix ok.sorted hf with ⟨rfl, rfl, _⟩ | ⟨_, _, h⟩
    · exact ⟨he, hb⟩
    · exact absurd hi h
  have hel : ∀ x : World, EL x a.B1 N.t.es → ∃ b off, a.B1 = some ⟨b, off, none⟩ ∧ b < x.heap.size ∧ x.cell? ⟨b, off + eix N.t.es (v : Int) (u : Int) * 4, none⟩ = some (.int .i64 N.t.es[eix N.t.es (v : Int) (u : Int)].a) ∧ x.cell? ⟨b, off + eix N.t.es (v : Int) (u : Int) * 4 + 1, none⟩ = some (.int .i64 N.t.es[eix N.t.es (v : Int) (u : Int)].b) ∧ x.cell? ⟨b, off + eix N.t.es (v : Int) (u : Int) * 4 + 2, none⟩ = some (.int .i64 N.t.es[eix N.t.es (v : Int) (u : Int)].f) ∧ x.cell? ⟨b, off + eix N.t.es (v : Int) (u : Int) * 4 + 3, none⟩ = some (.int .i64 N.t.es[eix N.t.es (v : Int) (u : Int)].g) := fun x hE => by
    obtain ⟨b, off, h1, h2, h3⟩ := hE (by omega)
    exact ⟨b, off, h1, h2, h3 _ hi⟩
  have hsl : ∀ x : World, IL x a.S N.sh → ∃ b off, a.S = some ⟨b, off, none⟩ ∧ b < x.heap.size ∧ x.cell? ⟨b, off + eix N.t.es (v : Int) (u : Int), none⟩ = some (.int .i64 N.sh[eix N.t.es (v : Int) (u : Int)]) := fun x hS => hS.at_ _ hns
  have hvl : ∀ x : World, VL x a.A1 N.vs → ∃ b off, a.A1 = some ⟨b, off, none⟩ ∧ b < x.heap.size ∧ (x.cell? ⟨b, off + v * 3, none⟩ = some (.int .i64 (vat N.vs (v : Int)).x) ∧ x.cell? ⟨b, off + v * 3 + 1, none⟩ = some (.int .i64 (vat N.vs (v : Int)).y) ∧ x.cell? ⟨b, off + v * 3 + 2, none⟩ = some (.int .i64 (vat N.vs (v : Int)).z)) ∧ (x.cell? ⟨b, off + u * 3, none⟩ = some (.int .i64 (vat N.vs (u : Int)).x) ∧ x.cell? ⟨b, off + u * 3 + 1, none⟩ = some (.int .i64 (vat N.vs (u : Int)).y) ∧ x.cell? ⟨b, off + u * 3 + 2, none⟩ = some (.int .i64 (vat N.vs (u : Int)).z)) := fun x hV => by
    obtain ⟨b, off, e, hb, c⟩ := hV.at_ v hv
    obtain ⟨b2, off2, e2, _, c2⟩ := hV.at_ u hu
    obtain ⟨rfl, rfl⟩ : b = b2 ∧ off = off2 := by simpa using e.symm.trans e2
    rw [← vat_get hv] at c
    rw [← vat_get hu] at c2
    exact ⟨b, off, e, hb, c, c2⟩
  have hin : N.sh[eix N.t.es (v : Int) (u : Int)] = 0 → ∃ f g : Nat, N.t.es[eix N.t.es (v : Int) (u : Int)].f = (f : Int) ∧ N.t.es[eix N.t.es (v : Int) (u : Int)].g = (g : Int) ∧ (∀ x : World, NetV x N a → Calls Try.prog 34 #[.agg (netC N a), .int .i64 (f : Int), .int .i64 (v : Int)] x fun e W' => e = .returned (.agg #[.int .i64 (N.inner (f : Int) (v : Int)).x, .int .i64 (N.inner (f : Int) (v : Int)).y, .int .i64 (N.inner (f : Int) (v : Int)).z]) ∧ Below x.heap.size x W') ∧ ∀ x : World, NetV x N a → Calls Try.prog 34 #[.agg (netC N a), .int .i64 (g : Int), .int .i64 (v : Int)] x fun e W' => e = .returned (.agg #[.int .i64 (N.inner (g : Int) (v : Int)).x, .int .i64 (N.inner (g : Int) (v : Int)).y, .int .i64 (N.inner (g : Int) (v : Int)).z]) ∧ Below x.heap.size x W' := fun h0 => by
    obtain ⟨⟨⟨f0, f1⟩, g0, g1⟩, ⟨fa, fb⟩, ga, gb⟩ := hsoft h0
    obtain ⟨f, hf⟩ := Int.eq_ofNat_of_zero_le f0
    obtain ⟨g, hg⟩ := Int.eq_ofNat_of_zero_le g0
    rw [hf] at fa fb f1
    rw [hg] at ga gb g1
    have hf2 : f < N.fs.length := by omega
    have hg2 : g < N.fs.length := by omega
    rw [Int.toNat_natCast, List.getD_eq_getElem?_getD, List.getElem?_eq_getElem hf2, Option.getD_some] at fa fb
    rw [Int.toNat_natCast, List.getD_eq_getElem?_getD, List.getElem?_eq_getElem hg2, Option.getD_some] at ga gb
    have hvv : (v : Int) = N.t.es[eix N.t.es (v : Int) (u : Int)].a ∨ (v : Int) = N.t.es[eix N.t.es (v : Int) (u : Int)].b := by have := hat.1; have := hat.2; omega
    refine ⟨f, g, hf, hg, fun x hx => inner_any x N a hx ok f v hf2 hv ?_, fun x hx => inner_any x N a hx ok g v hg2 hv ?_⟩
    · rcases hvv with h | h <;> rw [h] <;> assumption
    · rcases hvv with h | h <;> rw [h] <;> assumption
  have hid := hi
  have hid2 := hns
  generalize eix N.t.es (v : Int) (u : Int) = i at *
  generalize N.t.es[i] = e at *
  generalize N.sh[i] = s at *
  generalize N.near (v : Int) (u : Int) = RR at *
  have bi1 : (i : Int) < (N.t.es.length : Int) := by omega
  have bi2 : (i : Int) < (N.sh.length : Int) := by omega
  have bi0 : (0 : Int) ≤ (i : Int) := by omega
  have hb0 : Below W.heap.size W ((W.alloc (.cells (netC N a) 60)).alloc (.cells #[.int .i64 0, .int .i64 0, .int .i64 0] 30)) := bel_alloc (bel_alloc (Below.refl _ _) _) _
  have hC0 : Blk ((W.alloc (.cells (netC N a) 60)).alloc (.cells #[.int .i64 0, .int .i64 0, .int .i64 0] 30)) W.heap.size 60 (netC N a) := (Blk.new _ _ _ _ rfl).alloc _
  have hR0 : Blk ((W.alloc (.cells (netC N a) 60)).alloc (.cells #[.int .i64 0, .int .i64 0, .int .i64 0] 30)) (W.heap.size + 1) 30 #[.int .i64 0, .int .i64 0, .int .i64 0] := Blk.new _ _ _ _ (by simp)
  have hN0 := hN.below hb0
  have bv0 : (0 : Int) ≤ (v : Int) := by omega
  have bv1 : (v : Int) < (N.vs.length : Int) := by omega
  have bu0 : (0 : Int) ≤ (u : Int) := by omega
  have bu1 : (u : Int) < (N.vs.length : Int) := by omega
  clear hN hat hsoft hsg heg hi hns hid hid2 ok
  replace hys := Lib.hid hys
  replace hyo := Lib.hid hyo
  replace hin := Lib.hid hin
  go_enter Try.func35, Try.ntmps35
  go_upto_region 1 with (fail)
  generalize ((W.alloc (.cells (netC N a) 60)).alloc (.cells #[.int .i64 0, .int .i64 0, .int .i64 0] 30)) = W0 at *
  have x0 : W0.cell? ⟨W.heap.size, 0, none⟩ = some (.slice a.B1 N.t.es.length a.d1) := hC0.cell 0
  have x1 : W0.cell? ⟨W.heap.size, 1, none⟩ = some (.slice a.B2 N.t.fans.length a.d2) := hC0.cell 1
  have x2 : W0.cell? ⟨W.heap.size, 2, none⟩ = some (.slice a.B3 N.t.rs.length a.d3) := hC0.cell 2
  have xl := hC0.lt
  go_upto_region 2 with (first | (go_at_call 50; (with_reducible refine (kF _ hN0.es).mono ?_); rintro e W1 ⟨rfl, hb1⟩) | fail)
  have hB1 := bel_trans hb0 hb1
  have hC1 := hC0.below hb1
  have hR1 := hR0.below hb1
  have hN1 := hN0.below hb1
  clear hb0 hC0 hR0 hN0 hb1 x0 x1 x2 xl kF
  rename World => W1
  obtain ⟨bs, os, hbs, hbl, cs⟩ := hsl _ hN1.sh
  have x5 : W1.cell? ⟨W.heap.size, 5, none⟩ = some (.slice (some ⟨bs, os, none⟩) N.sh.length a.k3) := by rw [← hbs]; exact hC1.cell 5
  have xl := hC1.lt
  clear hbs hsl
  by_cases hs : s = 0
  · subst hs
    obtain ⟨f, g, hf, hg, kI1, kI2⟩ := hin.out rfl
    obtain ⟨be, oe, hbe, hbl2, c0, c1, c2, c3⟩ := hel _ hN1.es
    have hRR := hyo.out rfl
    rw [hf] at c2 hRR
    rw [hg] at c3 hRR
    clear hel hys hyo hin
    have x0 : W1.cell? ⟨W.heap.size, 0, none⟩ = some (.slice (some ⟨be, oe, none⟩) N.t.es.length a.d1) := by rw [← hbe]; exact hC1.cell 0
    go_upto_region 4 with (fail)
    go_upto_region 5 with (fail)
    generalize N.inner (f : Int) (v : Int) = p at *
    generalize N.inner (g : Int) (v : Int) = q at *
    obtain ⟨e1, e2, e3, e4⟩ := e
    simp only [] at hf hg c0 c1
    replace hf := trivial
    replace hg := trivial
    have hW2 : W1.alloc (.cells #[.int .i64 e1, .int .i64 e2, .int .i64 (f : Int), .int .i64 (g : Int)] 79) = W1.alloc (.cells #[.int .i64 e1, .int .i64 e2, .int .i64 (f : Int), .int .i64 (g : Int)] 79) := rfl
    have hP2 : Blk (W1.alloc (.cells #[.int .i64 e1, .int .i64 e2, .int .i64 (f : Int), .int .i64 (g : Int)] 79)) W1.heap.size 79 #[.int .i64 e1, .int .i64 e2, .int .i64 (f : Int), .int .i64 (g : Int)] := Blk.new _ _ _ _ rfl
    have hC2 := hC1.alloc (.cells #[.int .i64 e1, .int .i64 e2, .int .i64 (f : Int), .int .i64 (g : Int)] 79)
    have hR2 := hR1.alloc (.cells #[.int .i64 e1, .int .i64 e2, .int .i64 (f : Int), .int .i64 (g : Int)] 79)
    have hN2 := hN1.below (bel_alloc (Below.refl _ _) (.cells #[.int .i64 e1, .int .i64 e2, .int .i64 (f : Int), .int .i64 (g : Int)] 79))
    have hB2 : Below W.heap.size W (W1.alloc (.cells #[.int .i64 e1, .int .i64 e2, .int .i64 (f : Int), .int .i64 (g : Int)] 79)) := bel_alloc hB1 _
    clear hC1 hR1 hN1 hB1 c0 c1 c2 c3 x0 x5 xl cs hbl hbl2 hW2 hbe
    generalize W1.alloc (.cells #[.int .i64 e1, .int .i64 e2, .int .i64 (f : Int), .int .i64 (g : Int)] 79) = W2 at *
    generalize W1.heap.size = ge at *
    have y2 : W2.cell? ⟨ge, 2, none⟩ = some (.int .i64 (f : Int)) := hP2.cell 2
    have y3 : W2.cell? ⟨ge, 3, none⟩ = some (.int .i64 (g : Int)) := hP2.cell 3
    have yl := hP2.lt
    have kM := fun (x : World) (gg : Nat) (hx : Blk x gg 82 #[.int .i64 p.x, .int .i64 p.y, .int .i64 p.z, .int .i64 1, .int .i64 q.x, .int .i64 q.y, .int .i64 q.z, .int .i64 1]) => mean_any x 2 (some ⟨gg, 0, none⟩) 2 [(p, 1), (q, 1)] (WL2 hx) (by unfold i64B; omega) (by simp)
    rw [← hRR] at kM
    clear hRR
    replace kM : ∀ (x : World) (gg : Nat), Blk x gg 82 #[.int .i64 p.x, .int .i64 p.y, .int .i64 p.z, .int .i64 1, .int .i64 q.x, .int .i64 q.y, .int .i64 q.z, .int .i64 1] → Calls Try.prog 27 #[.int .i64 2, .slice (some ⟨gg, 0, none⟩) 2 2] x fun e W' => e = .returned (.agg #[.int .i64 RR.x, .int .i64 RR.y, .int .i64 RR.z]) ∧ Below x.heap.size x W' := kM
    have kJ1 := fun (x : More) => kI1 _ (hN2.below (bel_grow (Below.refl W2.heap.size W2) x))
    have kJ2 := fun (x : More) => kI2 _ (hN2.below (bel_grow (Below.refl W2.heap.size W2) x))
    clear kI1 kI2
    refine wp_region_tail 12 ?_ (by kernel_rfl) (by kernel_rfl) (by kernel_rfl) (fun x => ?_) (fun x => ?_)
    rotate_left
    · simp only [List.take_succ_cons, List.take_zero]
      repeat (first | (refine quiet_net _ rfl rfl W.heap.size rfl N a (fun z hz => by obtain ⟨y, rfl⟩ := hz; exact (hC2.grow _).grow _) ?_; simp only [Act.put, List.setIfInBounds_toArray, List.set_cons_succ, List.set_cons_zero]) | go_big_quiet_step (((first | with_reducible exact cqa _ (kJ1 _) | with_reducible exact cqb _ _ (kJ1 _) | with_reducible exact cqa _ (kJ2 _) | with_reducible exact cqb _ _ (kJ2 _)))))
      refine wpQuiet_nil ?_
      exact rfl
    simp only [List.drop_succ_cons, List.drop_zero]
    try simp only [Act.put, List.setIfInBounds_toArray, List.set_cons_succ, List.set_cons_zero]
    clear kJ1 kJ2 y2 y3 yl hP2 hC2 hN2
    have hR3 := hR2.grow x
    have hB3 := bel_grow hB2 x
    clear hR2 hB2
    generalize grow W2 x = W3 at *
    go_wp2_with (first | (go_at_call 27; (with_reducible refine (kM _ _ (Blk.new _ _ _ _ rfl)).mono ?_); rintro e W9 ⟨rfl, hb9⟩; have hR9 := (hR3.alloc (.cells #[.int .i64 p.x, .int .i64 p.y, .int .i64 p.z, .int .i64 1, .int .i64 q.x, .int .i64 q.y, .int .i64 q.z, .int .i64 1] 82)).below hb9; have hB9 := bel_trans (bel_alloc hB3 (.cells #[.int .i64 p.x, .int .i64 p.y, .int .i64 p.z, .int .i64 1, .int .i64 q.x, .int .i64 q.y, .int .i64 q.z, .int .i64 1] 82)) hb9; clear hR3 hB3 hb9; have rl := hR9.lt; have r0 := hR9.cell 0; have r1 := hR9.cell 1; have r2 := hR9.cell 2; have f0 := hR9.frozen 0; have f1 := hR9.frozen 1; have f2 := hR9.frozen 2) | fail)
    have hRe := (((hR9.set 0 (.int .i64 RR.x)).set 1 (.int .i64 RR.y)).set 2 (.int .i64 RR.z))
    have hBe : Below W.heap.size W (((W9.setCell ⟨W.heap.size + 1, 0, none⟩ (.int .i64 RR.x)).setCell ⟨W.heap.size + 1, 1, none⟩ (.int .i64 RR.y)).setCell ⟨W.heap.size + 1, 2, none⟩ (.int .i64 RR.z)) := (bel_set (bel_set (bel_set hB9 (p := ⟨W.heap.size + 1, 0, none⟩) (by simp) (.int .i64 RR.x)) (p := ⟨W.heap.size + 1, 1, none⟩) (by simp) (.int .i64 RR.y)) (p := ⟨W.heap.size + 1, 2, none⟩) (by simp) (.int .i64 RR.z))
    generalize (((W9.setCell ⟨W.heap.size + 1, 0, none⟩ (.int .i64 RR.x)).setCell ⟨W.heap.size + 1, 1, none⟩ (.int .i64 RR.y)).setCell ⟨W.heap.size + 1, 2, none⟩ (.int .i64 RR.z)) = We at *
    have we0 : We.cell? ⟨W.heap.size + 1, 0, none⟩ = some (.int .i64 RR.x) := hRe.cell 0
    have we1 : We.cell? ⟨W.heap.size + 1, 1, none⟩ = some (.int .i64 RR.y) := hRe.cell 1
    have we2 : We.cell? ⟨W.heap.size + 1, 2, none⟩ = some (.int .i64 RR.z) := hRe.cell 2
    refine bodyPost_ret (v := .agg #[.int .i64 RR.x, .int .i64 RR.y, .int .i64 RR.z]) (by simp [results, Try.results35, go_sem, we0, we1, we2]) rfl ⟨rfl, hBe⟩
  · obtain ⟨bv, ov, hbv, hbl3, ⟨a0, a1, a2⟩, b0, b1, b2⟩ := hvl _ hN1.vs
    have hRR := hys.out hs
    have hs2 : (s == 0) = false := by simpa using hs
    clear hel hys hyo hin hvl
    have x3 : W1.cell? ⟨W.heap.size, 3, none⟩ = some (.slice (some ⟨bv, ov, none⟩) N.vs.length a.k1) := by rw [← hbv]; exact hC1.cell 3
    generalize vat N.vs (v : Int) = p at *
    generalize vat N.vs (u : Int) = q at *
    have kM := fun (x : World) (gg : Nat) (hx : Blk x gg 82 #[.int .i64 p.x, .int .i64 p.y, .int .i64 p.z, .int .i64 2, .int .i64 q.x, .int .i64 q.y, .int .i64 q.z, .int .i64 1]) => mean_any x 3 (some ⟨gg, 0, none⟩) 2 [(p, 2), (q, 1)] (WL2 hx) (by unfold i64B; omega) (by simp)
    rw [← hRR] at kM
    clear hRR hbv
    replace kM : ∀ (x : World) (gg : Nat), Blk x gg 82 #[.int .i64 p.x, .int .i64 p.y, .int .i64 p.z, .int .i64 2, .int .i64 q.x, .int .i64 q.y, .int .i64 q.z, .int .i64 1] → Calls Try.prog 27 #[.int .i64 3, .slice (some ⟨gg, 0, none⟩) 2 2] x fun e W' => e = .returned (.agg #[.int .i64 RR.x, .int .i64 RR.y, .int .i64 RR.z]) ∧ Below x.heap.size x W' := kM
    go_upto_region 3 with (fail)
    refine wp_region_tail 12 ?_ (by kernel_rfl) (by kernel_rfl) (by kernel_rfl) (fun x => ?_) (fun x => ?_)
    rotate_left
    · simp only [List.take_succ_cons, List.take_zero]
      repeat (go_big_quiet_step ((fail)))
      refine wpQuiet_nil ?_
      exact rfl
    simp only [List.drop_succ_cons, List.drop_zero]
    try simp only [Act.put, List.setIfInBounds_toArray, List.set_cons_succ, List.set_cons_zero]
    clear a0 a1 a2 b0 b1 b2 x3 x5 xl hC1 hN1 cs
    have hR3 := hR1.grow x
    have hB3 := bel_grow hB1 x
    clear hR1 hB1
    generalize grow W1 x = W3 at *
    go_wp2_with (first | (go_at_call 27; (with_reducible refine (kM _ _ (Blk.new _ _ _ _ rfl)).mono ?_); rintro e W9 ⟨rfl, hb9⟩; have hR9 := (hR3.alloc (.cells #[.int .i64 p.x, .int .i64 p.y, .int .i64 p.z, .int .i64 2, .int .i64 q.x, .int .i64 q.y, .int .i64 q.z, .int .i64 1] 82)).below hb9; have hB9 := bel_trans (bel_alloc hB3 (.cells #[.int .i64 p.x, .int .i64 p.y, .int .i64 p.z, .int .i64 2, .int .i64 q.x, .int .i64 q.y, .int .i64 q.z, .int .i64 1] 82)) hb9; clear hR3 hB3 hb9; have rl := hR9.lt; have r0 := hR9.cell 0; have r1 := hR9.cell 1; have r2 := hR9.cell 2; have f0 := hR9.frozen 0; have f1 := hR9.frozen 1; have f2 := hR9.frozen 2) | fail)
    have hRe := (((hR9.set 0 (.int .i64 RR.x)).set 1 (.int .i64 RR.y)).set 2 (.int .i64 RR.z))
    have hBe : Below W.heap.size W (((W9.setCell ⟨W.heap.size + 1, 0, none⟩ (.int .i64 RR.x)).setCell ⟨W.heap.size + 1, 1, none⟩ (.int .i64 RR.y)).setCell ⟨W.heap.size + 1, 2, none⟩ (.int .i64 RR.z)) := (bel_set (bel_set (bel_set hB9 (p := ⟨W.heap.size + 1, 0, none⟩) (by simp) (.int .i64 RR.x)) (p := ⟨W.heap.size + 1, 1, none⟩) (by simp) (.int .i64 RR.y)) (p := ⟨W.heap.size + 1, 2, none⟩) (by simp) (.int .i64 RR.z))
    generalize (((W9.setCell ⟨W.heap.size + 1, 0, none⟩ (.int .i64 RR.x)).setCell ⟨W.heap.size + 1, 1, none⟩ (.int .i64 RR.y)).setCell ⟨W.heap.size + 1, 2, none⟩ (.int .i64 RR.z)) = We at *
    have we0 : We.cell? ⟨W.heap.size + 1, 0, none⟩ = some (.int .i64 RR.x) := hRe.cell 0
    have we1 : We.cell? ⟨W.heap.size + 1, 1, none⟩ = some (.int .i64 RR.y) := hRe.cell 1
    have we2 : We.cell? ⟨W.heap.size + 1, 2, none⟩ = some (.int .i64 RR.z) := hRe.cell 2
    refine bodyPost_ret (v := .agg #[.int .i64 RR.x, .int .i64 RR.y, .int .i64 RR.z]) (by simp [results, Try.results35, go_sem, we0, we1, we2]) rfl ⟨rfl, hBe⟩
end Go.Proofs.Ytpdnaceggpdleab
namespace Go.Proofs.Ytpdnaceggpdleab
open Go.RowKit
set_option linter.unusedVariables false
set_option linter.unusedSimpArgs false
set_option linter.unnecessarySimpa false
set_option maxRecDepth 100000
/-- The cells of weighed points. -/
def wC (f : Nat → P3 × Int) : Nat → Nat → Value := fun v j => .int .i64 (if j = 0 then (f v).1.x else if j = 1 then (f v).1.y else if j = 2 then (f v).1.z else (f v).2)
def set4 (cs : Array Value) (off : Nat) (p : P3 × Int) : Array Value := (((cs.setIfInBounds off (.int .i64 p.1.x)).setIfInBounds (off + 1) (.int .i64 p.1.y)).setIfInBounds (off + 2) (.int .i64 p.1.z)).setIfInBounds (off + 3) (.int .i64 p.2)
theorem wC_set (f : Nat → P3 × Int) {n v : Nat} (hv : v < n) (p : P3 × Int) : set4 (rowCs 4 n (wC f)) (v * 4) p = rowCs 4 n (wC fun u => if u = v then p else f u) := by
  unfold set4
  have e0 := rowCs_set (k := 4) (wC f) hv (show 0 < 4 by omega) (.int .i64 p.1.x)
  rw [Nat.add_zero] at e0
  rw [e0, rowCs_set _ hv (show 1 < 4 by omega), rowCs_set _ hv (show 2 < 4 by omega), rowCs_set _ hv (show 3 < 4 by omega)]
  refine rowCs_ext fun a b ha hb => ?_
  unfold setC wC
  by_cases e : a = v
  · subst e
    rcases (by omega : b = 0 ∨ b = 1 ∨ b = 2 ∨ b = 3) with rfl | rfl | rfl | rfl <;> simp
  · simp [e]
theorem wC_ext {n : Nat} {f g : Nat → P3 × Int} (h : ∀ v, v < n → f v = g v) : rowCs 4 n (wC f) = rowCs 4 n (wC g) := rowCs_ext fun a b ha hb => by unfold wC; rw [h a ha]
theorem wC_made (n : Nat) : madeCells #[.int .i64 0, .int .i64 0, .int .i64 0, .int .i64 0] (n * 4) = rowCs 4 n (wC fun _ => (Z3, 0)) := by
  rw [rowCs_made (k := 4) rfl (by omega)]
  refine rowCs_ext fun a b ha hb => ?_
  unfold wC
  rcases (by omega : b = 0 ∨ b = 1 ∨ b = 2 ∨ b = 3) with rfl | rfl | rfl | rfl <;> rfl
theorem wC_next {n k : Nat} (f : Nat → P3 × Int) (hk : k < n) : set4 (rowCs 4 n (wC fun v => if v < k then f v else (Z3, 0))) (k * 4) (f k) = rowCs 4 n (wC fun v => if v < k + 1 then f v else (Z3, 0)) := by
  rw [wC_set _ hk]
  refine wC_ext fun u hu => ?_
  by_cases e : u = k
  · subst e; rw [if_pos rfl, if_pos (by omega)]
  · rw [if_neg e]
    by_cases e2 : u < k
    · rw [if_pos e2, if_pos (by omega)]
    · rw [if_neg e2, if_neg (by omega)]
theorem WL_of {W : World} {g n : Nat} {t : TypeId} {f : Nat → P3 × Int} (h : Blk W g t (rowCs 4 n (wC f))) : WL W (some ⟨g, 0, none⟩) ((List.range n).map f) := fun hn => by
  refine ⟨g, 0, rfl, h.lt, fun i hi => ?_⟩
  have hi2 : i < n := by simpa using hi
  have e : ((List.range n).map f)[i] = f i := by simp
  rw [e, Nat.zero_add]
  refine ⟨?_, ?_, ?_, ?_⟩
  · rw [h.cell, show i * 4 = i * 4 + 0 from rfl, rowCs_at _ hi2 (by omega)]; rfl
  · rw [h.cell, rowCs_at _ hi2 (by omega)]; rfl
  · rw [h.cell, rowCs_at _ hi2 (by omega)]; rfl
  · rw [h.cell, rowCs_at _ hi2 (by omega)]; rfl
theorem row4W {W : World} {g n k : Nat} {t : TypeId} {h : Nat → Nat → Value} (hG : Blk W g t (rowCs 4 n h)) (hk : k < n) : (W.cell? ⟨g, k * 4, none⟩ = some (h k 0) ∧ W.cell? ⟨g, k * 4 + 1, none⟩ = some (h k 1) ∧ W.cell? ⟨g, k * 4 + 2, none⟩ = some (h k 2) ∧ W.cell? ⟨g, k * 4 + 3, none⟩ = some (h k 3)) ∧ g < W.heap.size ∧ W.frozen? ⟨g, k * 4, none⟩ = false ∧ W.frozen? ⟨g, k * 4 + 1, none⟩ = false ∧ W.frozen? ⟨g, k * 4 + 2, none⟩ = false ∧ W.frozen? ⟨g, k * 4 + 3, none⟩ = false := by
  have g0 := rowCs_at (k := 4) h hk (show 0 < 4 by omega)
  have g1 := rowCs_at (k := 4) h hk (show 1 < 4 by omega)
  have g2 := rowCs_at (k := 4) h hk (show 2 < 4 by omega)
  have g3 := rowCs_at (k := 4) h hk (show 3 < 4 by omega)
  rw [Nat.add_zero] at g0
  rw [← hG.cell] at g0 g1 g2 g3
  exact ⟨⟨g0, g1, g2, g3⟩, hG.lt, hG.frozen _, hG.frozen _, hG.frozen _, hG.frozen _⟩
theorem infoWt : (Try.prog.info? 82).map (fun i => (i.zero, i.size, i.bytes)) = some (some (.agg #[.int .i64 0, .int .i64 0, .int .i64 0, .int .i64 0]), 4, 32) := by kernel_rfl
set_option maxHeartbeats 4000000 in
theorem middle_any (W : World) (N : NetD) (a : NetA) (hN : NetV W N a) (ok : NetOk N) (v : Nat) (hv : v < N.vs.length) :
    Calls Try.prog 28 #[.agg (netC N a), .int .i64 (v : Int)] W fun e W' => e = .returned (.agg #[.int .i64 (N.middle (v : Int)).x, .int .i64 (N.middle (v : Int)).y, .int .i64 (N.middle (v : Int)).z]) ∧ Below W.heap.size W W' := by
  have hv2 : v < N.t.fans.length := by rw [ok.nf]; exact hv
  have hme : N.middle (v : Int) = meanP (N.t.fans[v].length : Int) (N.t.fans[v].map fun f => (N.inner f (v : Int), 1)) := by
    unfold NetD.middle
    rw [Int.toNat_natCast, List.getD_eq_getElem?_getD, List.getElem?_eq_getElem hv2]
    rfl
  have hfan := ok.fan v hv
  rw [List.getD_eq_getElem?_getD, List.getElem?_eq_getElem hv2, Option.getD_some] at hfan
  have hfl := ok.fl _ (List.getElem_mem hv2)
  obtain ⟨bf, of, hbf, hbfl, Bf, mf, cf, hIL⟩ : ∃ b off, a.B2 = some ⟨b, off, none⟩ ∧ b < W.heap.size ∧ ∃ B m, W.cell? ⟨b, off + v, none⟩ = some (.slice B N.t.fans[v].length m) ∧ IL W B N.t.fans[v] := by
    obtain ⟨b, off, h1, h2, h3⟩ := hN.fans (by omega)
    obtain ⟨B, m, h4, h5⟩ := h3 v hv2
    exact ⟨b, off, h1, h2, B, m, h4, h5⟩
  generalize N.t.fans[v] = x at *
  have kI : ∀ f : Int, f ∈ x → ∃ fn : Nat, f = (fn : Int) ∧ ∀ u : World, NetV u N a → Calls Try.prog 34 #[.agg (netC N a), .int .i64 f, .int .i64 (v : Int)] u fun e W' => e = .returned (.agg #[.int .i64 (N.inner f (v : Int)).x, .int .i64 (N.inner f (v : Int)).y, .int .i64 (N.inner f (v : Int)).z]) ∧ Below u.heap.size u W' := fun f hf => by
    obtain ⟨⟨f0, f1⟩, hm⟩ := hfan f hf
    obtain ⟨fn, rfl⟩ := Int.eq_ofNat_of_zero_le f0
    have hf2 : fn < N.fs.length := by omega
    rw [Int.toNat_natCast, List.getD_eq_getElem?_getD, List.getElem?_eq_getElem hf2, Option.getD_some] at hm
    exact ⟨fn, rfl, fun u hu => inner_any u N a hu ok fn v hf2 hv hm⟩
  obtain ⟨HF, hHF⟩ : ∃ H : Nat → P3 × Int, H = fun i => (N.inner (x.getD i 0) (v : Int), 1) := ⟨_, rfl⟩
  have hall : (List.range x.length).map HF = x.map fun f => (N.inner f (v : Int), 1) := by
    apply List.ext_getElem
    · simp
    · intro i h1 h2
      have hi : i < x.length := by simpa using h1
      simp [hHF, List.getD_eq_getElem?_getD, List.getElem?_eq_getElem hi]
  have kM := fun (u : World) (g : Nat) (hu : Blk u g 82 (rowCs 4 x.length (wC HF))) => mean_any u (x.length : Int) (some ⟨g, 0, none⟩) x.length ((List.range x.length).map HF) (WL_of hu) (by unfold i64B; omega) (by rw [List.length_map, List.length_range]; omega)
  rw [hall, ← hme, List.length_map] at kM
  have hHk : ∀ k (h : k < x.length), HF k = (N.inner x[k] (v : Int), 1) := fun k h => by
    rw [hHF]
    simp only [List.getD_eq_getElem?_getD, List.getElem?_eq_getElem h, Option.getD_some]
  clear hHF hall hme hfan
  generalize N.middle (v : Int) = RR at *
  replace kM := Lib.hid kM
  replace kI := Lib.hid kI
  replace hHk := Lib.hid hHk
  obtain ⟨i0, hi0, hz0, hz1, hz2⟩ := info_parts infoWt
  have hb0 : Below W.heap.size W ((W.alloc (.cells (netC N a) 60)).alloc (.cells #[.int .i64 0, .int .i64 0, .int .i64 0] 30)) := bel_alloc (bel_alloc (Below.refl _ _) _) _
  have hC0 : Blk ((W.alloc (.cells (netC N a) 60)).alloc (.cells #[.int .i64 0, .int .i64 0, .int .i64 0] 30)) W.heap.size 60 (netC N a) := (Blk.new _ _ _ _ rfl).alloc _
  have hR0 : Blk ((W.alloc (.cells (netC N a) 60)).alloc (.cells #[.int .i64 0, .int .i64 0, .int .i64 0] 30)) (W.heap.size + 1) 30 #[.int .i64 0, .int .i64 0, .int .i64 0] := Blk.new _ _ _ _ (by simp)
  have hsz0 : ((W.alloc (.cells (netC N a) 60)).alloc (.cells #[.int .i64 0, .int .i64 0, .int .i64 0] 30)).heap.size = W.heap.size + 1 + 1 := by simp
  have hN0 := hN.below hb0
  have hIL0 := hIL.below hb0
  have cf0 := (hb0.cell (p := ⟨bf, of + v, none⟩) hbfl).trans cf
  have hbfl0 := Nat.lt_of_lt_of_le hbfl hb0.size
  replace hN := Lib.hid hN
  replace hIL := Lib.hid hIL
  clear cf hbfl
  go_enter Try.func28, Try.ntmps28
  go_upto_region 1 with (fail)
  generalize (W.alloc (.cells (netC N a) 60)).alloc (.cells #[.int .i64 0, .int .i64 0, .int .i64 0] 30) = W0 at *
  have x1 : W0.cell? ⟨W.heap.size, 1, none⟩ = some (.slice (some ⟨bf, of, none⟩) N.t.fans.length a.d2) := by rw [← hbf]; exact hC0.cell 1
  have xl := hC0.lt
  have v0 : (0 : Int) ≤ (v : Int) := by omega
  have v1 : (v : Int) < (N.t.fans.length : Int) := by omega
  clear hbf
  go_upto_region 3 with (first | ((refine wpList_make_full _ rfl _ _ 80 rfl W0.heap.size 82 i0 _ 4 Try.underlying80 hi0 hz0 hz1 .i64 .i64 (x.length : Int) (x.length : Int) x.length rfl rfl rfl rfl (by rw [hz2]; omega) (by unfold maxLen; omega) (Nat.le_refl _) ?_); intro W1 own1 hg1) | fail)
  have hG1 : Blk W1 W0.heap.size 82 (rowCs 4 x.length (wC fun _ => (Z3, 0))) := by
    have := made_blk own1
    rw [show (Value.agg #[Value.int .i64 0, Value.int .i64 0, Value.int .i64 0, Value.int .i64 0]).cells = #[.int .i64 0, .int .i64 0, .int .i64 0, .int .i64 0] from rfl, wC_made] at this
    exact this
  have hb1 : Below W0.heap.size W0 W1 := bel_own (Below.refl _ _) hg1 (by intro k h; cases h)
  have hC1 := hC0.below hb1
  have hR1 := hR0.below hb1
  have hB1 := bel_trans hb0 hb1
  rw [hsz0] at hG1
  clear own1 hg1 hb1 hC0 hR0 hN0 hIL0 hb0 x1 xl cf0 hbfl0
  go_wp2
  go_loopw [20] (fun iv wr => ∃ k : Nat, iv = .int .i64 (k : Int) ∧ k ≤ x.length ∧ Below W.heap.size W wr ∧ Blk wr W.heap.size 60 (netC N a) ∧ Blk wr (W.heap.size + 1) 30 #[.int .i64 0, .int .i64 0, .int .i64 0] ∧ Blk wr (W.heap.size + 1 + 1) 82 (rowCs 4 x.length (wC fun i => if i < k then HF i else (Z3, 0)))) (fun iv _ => x.length - (intOf iv).toNat)
  case atStart => exact ⟨0, rfl, by omega, hB1, hC1, hR1, by simpa using hG1⟩
  case round =>
    obtain ⟨k, rfl, hk, hBr, hCr, hRr, hGr⟩ := hrel
    clear hB1 hC1 hR1 hG1
    rename World => wr
    by_cases hlt : k < x.length
    · obtain ⟨bi, oi, rfl, hbi, ci⟩ := (hIL.out.below hBr).at_ k hlt
      obtain ⟨fn, hfn, kI1⟩ := kI.out _ (List.getElem_mem hlt)
      have kI2 := kI1 wr (hN.out.below hBr)
      have hH := hHk.out k hlt
      generalize x[k] = f at *
      subst hfn
      generalize N.inner (fn : Int) (v : Int) = p at *
      replace hH := Lib.hid hH
      clear kI1
      have q0 : (0 : Int) ≤ (k : Int) := by omega
      have q1 : (k : Int) < (x.length : Int) := by omega
      go_wp2_with (first | ((refine load_net rfl _ rfl W.heap.size rfl N a hCr ?_); simp only [Act.put, List.setIfInBounds_toArray, List.set_cons_succ, List.set_cons_zero]) | (go_at_call 34; (with_reducible refine kI2.mono ?_); rintro e W3 ⟨rfl, hb3⟩; have hB3 := bel_trans hBr hb3; have hC3 := hCr.below hb3; have hR3 := hRr.below hb3; have hG3 := hGr.below hb3; clear hBr hCr hRr hGr hb3 ci kI2; obtain ⟨⟨g0, g1, g2, g3⟩, gl, f0, f1, f2, f3⟩ := row4W hG3 hlt) | fail)
      go_roundw
      case rel =>
        have hs := (((hG3.set (k * 4) (.int .i64 p.x)).set (k * 4 + 1) (.int .i64 p.y)).set (k * 4 + 2) (.int .i64 p.z)).set (k * 4 + 3) (.int .i64 1)
        have hnx := wC_next (n := x.length) HF hlt
        rw [hH.out] at hnx
        unfold set4 at hnx
        rw [hnx] at hs
        exact ⟨k + 1, by go_num, by omega, bel_set (bel_set (bel_set (bel_set hB3 (by show W.heap.size ≤ W.heap.size + 1 + 1; omega) _) (by show W.heap.size ≤ W.heap.size + 1 + 1; omega) _) (by show W.heap.size ≤ W.heap.size + 1 + 1; omega) _) (by show W.heap.size ≤ W.heap.size + 1 + 1; omega) _, (((hC3.far _ _ (by omega)).far _ _ (by omega)).far _ _ (by omega)).far _ _ (by omega), (((hR3.far _ _ (by omega)).far _ _ (by omega)).far _ _ (by omega)).far _ _ (by omega), hs⟩
      case measure => simp [intOf]; omega
    · obtain rfl : k = x.length := by omega
      have hG9 : Blk wr (W.heap.size + 1 + 1) 82 (rowCs 4 x.length (wC HF)) := by
        rw [wC_ext (f := HF) (g := fun i => if i < x.length then HF i else (Z3, 0)) (fun u hu => (if_pos hu).symm)]
        exact hGr
      have kM2 := kM.out wr _ hG9
      clear hGr hG9 hCr
      go_wp2_with (first | (go_at_call 27; (with_reducible refine kM2.mono ?_); rintro e W9 ⟨rfl, hb9⟩; have hR9 := hRr.below hb9; have hB9 := bel_trans hBr hb9; clear hRr hBr hb9; have rl := hR9.lt; have r0 := hR9.cell 0; have r1 := hR9.cell 1; have r2 := hR9.cell 2; have f0 := hR9.frozen 0; have f1 := hR9.frozen 1; have f2 := hR9.frozen 2) | fail)
      have hRe := (((hR9.set 0 (.int .i64 RR.x)).set 1 (.int .i64 RR.y)).set 2 (.int .i64 RR.z))
      have hBe : Below W.heap.size W (((W9.setCell ⟨W.heap.size + 1, 0, none⟩ (.int .i64 RR.x)).setCell ⟨W.heap.size + 1, 1, none⟩ (.int .i64 RR.y)).setCell ⟨W.heap.size + 1, 2, none⟩ (.int .i64 RR.z)) := (bel_set (bel_set (bel_set hB9 (p := ⟨W.heap.size + 1, 0, none⟩) (by simp) (.int .i64 RR.x)) (p := ⟨W.heap.size + 1, 1, none⟩) (by simp) (.int .i64 RR.y)) (p := ⟨W.heap.size + 1, 2, none⟩) (by simp) (.int .i64 RR.z))
      generalize (((W9.setCell ⟨W.heap.size + 1, 0, none⟩ (.int .i64 RR.x)).setCell ⟨W.heap.size + 1, 1, none⟩ (.int .i64 RR.y)).setCell ⟨W.heap.size + 1, 2, none⟩ (.int .i64 RR.z)) = We at *
      have we0 : We.cell? ⟨W.heap.size + 1, 0, none⟩ = some (.int .i64 RR.x) := hRe.cell 0
      have we1 : We.cell? ⟨W.heap.size + 1, 1, none⟩ = some (.int .i64 RR.y) := hRe.cell 1
      have we2 : We.cell? ⟨W.heap.size + 1, 2, none⟩ = some (.int .i64 RR.z) := hRe.cell 2
      refine bodyPost_ret (v := .agg #[.int .i64 RR.x, .int .i64 RR.y, .int .i64 RR.z]) (by simp [results, Try.results28, go_sem, we0, we1, we2]) rfl ⟨rfl, hBe⟩
end Go.Proofs.Ytpdnaceggpdleab
namespace Go.Proofs.Ytpdnaceggpdleab
open Go.RowKit
set_option linter.unusedVariables false
set_option linter.unusedSimpArgs false
set_option linter.unnecessarySimpa false
set_option maxRecDepth 100000
theorem corner_many {N : NetD} {v : Int} (h : 2 < (N.ends v).length) : N.corner v = vat N.vs v := by
  unfold NetD.corner
  match e : N.ends v with
  | [] => rw [e] at h; simp at h
  | [_] => rw [e] at h; simp at h
  | [_, _] => rw [e] at h; simp at h
  | _ :: _ :: _ :: _ => rfl
theorem corner_two {N : NetD} {v : Int} (p q : P3) (h : N.ends v = [p, q]) : N.corner v = meanP 6 [(vat N.vs v, 4), (p, 1), (q, 1)] := by
  unfold NetD.corner; rw [h]
theorem corner_few {N : NetD} {v : Int} (h : (N.ends v).length < 2) : N.corner v = N.middle v := by
  unfold NetD.corner
  match e : N.ends v with
  | [] => rfl
  | [_] => rfl
  | [_, _] => rw [e] at h; simp at h
  | _ :: _ :: _ :: _ => rw [e] at h; simp at h; omega
theorem two_of {x : List P3} (h : x.length = 2) : ∃ p q, x = [p, q] := by
  match x, h with
  | [p, q], _ => exact ⟨p, q, rfl⟩
/-- A slot that holds a row of n weighed points. -/
def PW (base n : Nat) (ps : List (P3 × Int)) : World → Value → Prop := fun w v => ∃ b, v = .slice (some ⟨b, 0, none⟩) n n ∧ base ≤ b ∧ WL w (some ⟨b, 0, none⟩) ps
theorem PW.stays (base n : Nat) (ps : List (P3 × Int)) : Stays (PW base n ps) := fun w w' v hB ⟨b, e, h0, h⟩ => ⟨b, e, h0, h.below hB⟩
theorem rng4W {W : World} {b o : Nat} {x y z t : Value} (h0 : W.cell? ⟨b, o, none⟩ = some x) (h1 : W.cell? ⟨b, o + 1, none⟩ = some y) (h2 : W.cell? ⟨b, o + 2, none⟩ = some z) (h3 : W.cell? ⟨b, o + 3, none⟩ = some t) : W.rangeAt b o [x, y, z, t] := fun j v hv => by
  match j, hv with
  | 0, hv => simp at hv; subst hv; exact h0
  | 1, hv => simp at hv; subst hv; exact h1
  | 2, hv => simp at hv; subst hv; exact h2
  | 3, hv => simp at hv; subst hv; exact h3
  | j + 4, hv => simp at hv
theorem WL3 {W : World} {g : Nat} {t : TypeId} {p q r : P3} {n1 n2 n3 : Int} (h : Blk W g t #[.int .i64 p.x, .int .i64 p.y, .int .i64 p.z, .int .i64 n1, .int .i64 q.x, .int .i64 q.y, .int .i64 q.z, .int .i64 n2, .int .i64 r.x, .int .i64 r.y, .int .i64 r.z, .int .i64 n3]) : WL W (some ⟨g, 0, none⟩) [(p, n1), (q, n2), (r, n3)] := fun _ => ⟨g, 0, rfl, h.lt, fun i hi => by
  rcases (by simp at hi; omega : i = 0 ∨ i = 1 ∨ i = 2) with rfl | rfl | rfl
  · exact ⟨h.cell 0, h.cell 1, h.cell 2, h.cell 3⟩
  · exact ⟨h.cell 4, h.cell 5, h.cell 6, h.cell 7⟩
  · exact ⟨h.cell 8, h.cell 9, h.cell 10, h.cell 11⟩⟩
set_option maxHeartbeats 8000000 in
theorem corners_any (W : World) (N : NetD) (a : NetA) (hN : NetV W N a) (ok : NetOk N) :
    Calls Try.prog 15 #[.agg (netC N a)] W fun e W' => ∃ g, e = .returned (.slice (some ⟨g, 0, none⟩) N.vs.length N.vs.length) ∧ W.heap.size ≤ g ∧ Blk W' g 30 (rowCs 3 N.vs.length (pC fun v : Nat => N.corner (v : Int))) ∧ Below W.heap.size W W' := by
  obtain ⟨B1, B2, B3, A1, Q, S, E, d1, d2, d3, k1, k2, k3, k4⟩ := a
  obtain ⟨i0, hi0, hz0, hz1, hz2⟩ := info_parts infoV
  have hb0 : Below W.heap.size W (W.alloc (.cells (netC N ⟨B1, B2, B3, A1, Q, S, E, d1, d2, d3, k1, k2, k3, k4⟩) 60)) := bel_alloc (Below.refl _ _) _
  have hC0 : Blk (W.alloc (.cells (netC N ⟨B1, B2, B3, A1, Q, S, E, d1, d2, d3, k1, k2, k3, k4⟩) 60)) W.heap.size 60 (netC N ⟨B1, B2, B3, A1, Q, S, E, d1, d2, d3, k1, k2, k3, k4⟩) := Blk.new _ _ _ _ rfl
  have hsz0 : (W.alloc (.cells (netC N ⟨B1, B2, B3, A1, Q, S, E, d1, d2, d3, k1, k2, k3, k4⟩) 60)).heap.size = W.heap.size + 1 := World.size_alloc _ _
  have hnv := ok.nv
  replace hN := Lib.hid hN
  replace ok := Lib.hid ok
  obtain ⟨HF, hHF⟩ : ∃ f : Nat → P3, f = fun v : Nat => N.corner (v : Int) := ⟨_, rfl⟩
  rw [← hHF]
  replace hHF := Lib.hid hHF
  go_enter Try.func15, Try.ntmps15
  go_upto_region 1 with (fail)
  generalize W.alloc (.cells (netC N ⟨B1, B2, B3, A1, Q, S, E, d1, d2, d3, k1, k2, k3, k4⟩) 60) = W0 at *
  have x3 : W0.cell? ⟨W.heap.size, 3, none⟩ = some (.slice A1 N.vs.length k1) := hC0.cell 3
  have xl := hC0.lt
  go_upto_region 2 with (first | ((refine wpList_make_full _ rfl _ _ 22 rfl W0.heap.size 30 i0 _ 3 Try.underlying22 hi0 hz0 hz1 .i64 .i64 (N.vs.length : Int) (N.vs.length : Int) N.vs.length rfl rfl rfl rfl (by rw [hz2]; omega) (by unfold maxLen; omega) (Nat.le_refl _) ?_); intro W1 own1 hg1) | fail)
  have hG1 : Blk W1 W0.heap.size 30 (rowCs 3 N.vs.length (pC fun _ => Z3)) := by
    have := made_blk own1
    rw [show (Value.agg #[Value.int .i64 0, Value.int .i64 0, Value.int .i64 0]).cells = #[.int .i64 Z3.x, .int .i64 Z3.y, .int .i64 Z3.z] from rfl, pC_made] at this
    exact this
  have hb1 : Below W0.heap.size W0 W1 := bel_own (Below.refl _ _) hg1 (by intro k h; cases h)
  have hC1 := hC0.below hb1
  have hB1 := bel_trans hb0 hb1
  rw [hsz0] at hG1
  clear own1 hg1 hb1 hC0 hb0 x3 xl
  have x6 : W1.cell? ⟨W.heap.size, 6, none⟩ = some (.slice E N.vs.length k4) := hC1.cell 6
  have xl := hC1.lt
  go_wp2
  go_loopw [13] (fun iv wr => ∃ k : Nat, iv = .int .i64 (k : Int) ∧ k ≤ N.vs.length ∧ Below W.heap.size W wr ∧ Blk wr W.heap.size 60 (netC N ⟨B1, B2, B3, A1, Q, S, E, d1, d2, d3, k1, k2, k3, k4⟩) ∧ Blk wr (W.heap.size + 1) 30 (rowCs 3 N.vs.length (pC fun i => if i < k then HF i else Z3))) (fun iv _ => N.vs.length - (intOf iv).toNat)
  case atStart => exact ⟨0, rfl, by omega, hB1, hC1, by simpa using hG1⟩
  case round =>
    obtain ⟨k, rfl, hk, hBr, hCr, hGr⟩ := hrel
    clear hB1 hC1 hG1 x6 xl
    rename World => wr
    by_cases hlt : k < N.vs.length
    · have hNr := hN.out.below hBr
      obtain ⟨bn, on, rfl, hbnl, Be, me, ce, hw⟩ : ∃ b off, E = some ⟨b, off, none⟩ ∧ b < wr.heap.size ∧ ∃ B m, wr.cell? ⟨b, off + k, none⟩ = some (.slice B (N.ends (k : Int)).length m) ∧ WL wr B ((N.ends (k : Int)).map fun p => (p, 1)) := by
        obtain ⟨b, off, h1, h2, h3⟩ := hNr.en (by omega)
        obtain ⟨B, m, h4, h5⟩ := h3 k hlt
        exact ⟨b, off, h1, h2, B, m, h4, h5⟩
      obtain ⟨bv, ov, rfl, hbv, c0, c1, c2⟩ : ∃ b off, A1 = some ⟨b, off, none⟩ ∧ b < wr.heap.size ∧ wr.cell? ⟨b, off + k * 3, none⟩ = some (.int .i64 N.vs[k].x) ∧ wr.cell? ⟨b, off + k * 3 + 1, none⟩ = some (.int .i64 N.vs[k].y) ∧ wr.cell? ⟨b, off + k * 3 + 2, none⟩ = some (.int .i64 N.vs[k].z) := hNr.vs.at_ k hlt
      rw [← vat_get hlt] at c0 c1 c2
      have hHk : HF k = N.corner (k : Int) := by rw [hHF.out]
      have kMid := middle_any wr N _ hNr ok.out k hlt
      have q0 : (0 : Int) ≤ (k : Int) := by omega
      have q1 : (k : Int) < (N.vs.length : Int) := by omega
      have hmany := @corner_many N (k : Int)
      have hfew := @corner_few N (k : Int)
      have htwo := @corner_two N (k : Int)
      have hnx := pC_next (n := N.vs.length) HF hlt
      rw [hHk] at hnx
      generalize N.corner (k : Int) = RR at *
      generalize N.middle (k : Int) = MM at *
      generalize N.ends (k : Int) = el at *
      generalize vat N.vs (k : Int) = p at *
      replace hnx := Lib.hid hnx
      replace hHk := Lib.hid hHk
      replace hmany := Lib.hid hmany
      replace hfew := Lib.hid hfew
      replace htwo := Lib.hid htwo
      replace hw := Lib.hid hw
      have x3 : wr.cell? ⟨W.heap.size, 3, none⟩ = some (.slice (some ⟨bv, ov, none⟩) N.vs.length k1) := hCr.cell 3
      have xl := hCr.lt
      replace hNr := Lib.hid hNr
      by_cases hm : 2 < el.length
      · have hq := hmany.out hm
        have hl2 : (2 : Int) < (el.length : Int) := by omega
        obtain ⟨⟨g0, g1, g2⟩, gl, f0, f1, f2⟩ := row3P hGr hlt
        replace hq := Lib.hid hq
        clear hm
        go_wp2
        go_roundw
        case rel =>
          have hs := ((hGr.set (k * 3) (.int .i64 p.x)).set (k * 3 + 1) (.int .i64 p.y)).set (k * 3 + 2) (.int .i64 p.z)
          have hnx2 := hnx.out
          rw [hq.out] at hnx2
          unfold set3 at hnx2
          rw [hnx2] at hs
          exact ⟨k + 1, by go_num, by omega, bel_set (bel_set (bel_set hBr (by simp) _) (by simp) _) (by simp) _, ((hCr.far _ _ (by omega)).far _ _ (by omega)).far _ _ (by omega), hs⟩
        case measure => simp [intOf]; omega
      · by_cases ht : el.length = 2
        · obtain ⟨pa, pb, rfl⟩ := two_of ht
          have hq := htwo.out pa pb rfl
          obtain ⟨be, oe, rfl, hbe, hwc⟩ := hw.out (by simp)
          obtain ⟨a0, a1, a2, a3⟩ := hwc 0 (by simp)
          obtain ⟨b0, b1, b2, b3⟩ := hwc 1 (by simp)
          simp only [List.map_cons, List.getElem_cons_zero, List.getElem_cons_succ, Nat.zero_mul, Nat.add_zero, Nat.one_mul] at a0 a1 a2 a3 b0 b1 b2 b3
          have kM : ∀ (x : World) (bb : Nat), WL x (some ⟨bb, 0, none⟩) [(p, 4), (pa, 1), (pb, 1)] → Calls Try.prog 27 #[.int .i64 6, .slice (some ⟨bb, 0, none⟩) 3 3] x fun e W' => e = .returned (.agg #[.int .i64 RR.x, .int .i64 RR.y, .int .i64 RR.z]) ∧ Below x.heap.size x W' := fun x bb hx => by
            rw [hq]
            exact mean_any x 6 (some ⟨bb, 0, none⟩) 3 [(p, 4), (pa, 1), (pb, 1)] hx (by unfold i64B; omega) (by simp)
          clear hq hm ht hwc
          go_upto_region 9 with (fail)
          refine wp_region_monoT 16 (RL [PE (.slice (some ⟨W.heap.size + 1, 0, none⟩) N.vs.length N.vs.length), PE (.int .i64 (k : Int)), PE (.pointer (some ⟨W.heap.size, 3, none⟩)), PE (.slice (some ⟨bv, ov, none⟩) N.vs.length k1), PE (.int .i64 (k : Int)), PE (.pointer (some ⟨bv, ov + k * 3, none⟩)), PE (.agg #[.int .i64 p.x, .int .i64 p.y, .int .i64 p.z]), PE (.agg #[.int .i64 p.x, .int .i64 p.y, .int .i64 p.z, .int .i64 4]), PE (.slice (some ⟨be, oe, none⟩) 2 me), PE (.pointer (some ⟨be, oe, none⟩)), PE (.agg #[.int .i64 pa.x, .int .i64 pa.y, .int .i64 pa.z, .int .i64 1]), PE (.slice (some ⟨be, oe, none⟩) 2 me), PE (.pointer (some ⟨be, oe + 4, none⟩)), PE (.agg #[.int .i64 pb.x, .int .i64 pb.y, .int .i64 pb.z, .int .i64 1]), PW (wr.heap.size) 3 [(p, 4), (pa, 1), (pb, 1)], PE (.agg #[.int .i64 RR.x, .int .i64 RR.y, .int .i64 RR.z])]) (by kernel_rfl) _ rfl (by kernel_rfl) (by kernel_rfl) (by kernel_rfl) (by kernel_rfl) (by kernel_rfl) (RL.stays ?_) ?_ ?_
          · intro p hp
            simp only [List.mem_cons, List.not_mem_nil, or_false] at hp
            rcases hp with rfl | rfl | rfl | rfl | rfl | rfl | rfl | rfl | rfl | rfl | rfl | rfl | rfl | rfl | rfl | rfl <;> first | exact PE.stays _ | exact PV.stays _ _ _ | exact PW.stays _ _ _
          · simp only [List.take_succ_cons, List.take_zero]
            refine ⟨?_, ?_, ?_, ?_, ?_, ?_, ?_, ?_, ?_, ?_, ?_, ?_, ?_, ?_, ?_, ?_, ?_⟩
            · refine mono_val rfl (fun a w hB hk hp => ?_)
              have es3 := (hk 3 (keep_of (by kernel_rfl))).trans (show _ = some (.slice (some ⟨W.heap.size + 1, 0, none⟩) N.vs.length N.vs.length) from rfl)
              exact ⟨.slice (some ⟨W.heap.size + 1, 0, none⟩) N.vs.length N.vs.length, w, by simp [execOp, go_sem, es3], Below.refl _ _, fun _ _ => rfl⟩
            · refine mono_val rfl (fun a w hB hk hp => ?_)
              have es4 := (hk 4 (keep_of (by kernel_rfl))).trans (show _ = some (.int .i64 (k : Int)) from rfl)
              exact ⟨.int .i64 (k : Int), w, by simp [execOp, go_sem, es4], Below.refl _ _, fun _ _ => rfl⟩
            · refine mono_val rfl (fun a w hB hk hp => ?_)
              have es1 := (hk 1 (keep_of (by kernel_rfl))).trans (show _ = some (.pointer (some ⟨W.heap.size, 0, none⟩)) from rfl)
              exact ⟨.pointer (some ⟨W.heap.size, 3, none⟩), w, by simp [execOp, go_sem, es1], Below.refl _ _, fun _ _ => rfl⟩
            · refine mono_val rfl (fun a w hB hk hp => ?_)
              obtain ⟨x2, ex2, rx2⟩ := hp ⟨2, .data⟩ (by simp) rfl _ _ rfl rfl
              obtain rfl : x2 = _ := rx2
              have fc0 := (hB.cell (p := ⟨W.heap.size, 3, none⟩) xl).trans x3
              exact ⟨.slice (some ⟨bv, ov, none⟩) N.vs.length k1, w, by simp [execOp, go_sem, ex2, fc0], Below.refl _ _, fun _ _ => rfl⟩
            · refine mono_val rfl (fun a w hB hk hp => ?_)
              have es4 := (hk 4 (keep_of (by kernel_rfl))).trans (show _ = some (.int .i64 (k : Int)) from rfl)
              exact ⟨.int .i64 (k : Int), w, by simp [execOp, go_sem, es4], Below.refl _ _, fun _ _ => rfl⟩
            · refine mono_val rfl (fun a w hB hk hp => ?_)
              obtain ⟨x3, ex3, rx3⟩ := hp ⟨3, .data⟩ (by simp) rfl _ _ rfl rfl
              obtain rfl : x3 = _ := rx3
              obtain ⟨x4, ex4, rx4⟩ := hp ⟨4, .data⟩ (by simp) rfl _ _ rfl rfl
              obtain rfl : x4 = _ := rx4
              have fc0 := q0
              have fc1 := q1
              exact ⟨.pointer (some ⟨bv, ov + k * 3, none⟩), w, by simp [execOp, go_sem, ex3, ex4, fc0, fc1], Below.refl _ _, fun _ _ => rfl⟩
            · refine mono_val rfl (fun a w hB hk hp => ?_)
              obtain ⟨x5, ex5, rx5⟩ := hp ⟨5, .data⟩ (by simp) rfl _ _ rfl rfl
              obtain rfl : x5 = _ := rx5
              have fc0 := (hB.cell (p := ⟨bv, ov + k * 3, none⟩) hbv).trans c0
              have fc1 := (hB.cell (p := ⟨bv, ov + k * 3 + 1, none⟩) hbv).trans c1
              have fc2 := (hB.cell (p := ⟨bv, ov + k * 3 + 2, none⟩) hbv).trans c2
              exact ⟨.agg #[.int .i64 p.x, .int .i64 p.y, .int .i64 p.z], w, ldmS_run _ _ _ 30 _ rfl (bv) (ov + k * 3) (eval_tmp ex5) _ _ (rng3V fc0 fc1 fc2) Try.underlying30 rfl infoV3, Below.refl _ _, fun _ _ => rfl⟩
            · refine mono_val rfl (fun a w hB hk hp => ?_)
              obtain ⟨x6, ex6, rx6⟩ := hp ⟨6, .data⟩ (by simp) rfl _ _ rfl rfl
              obtain rfl : x6 = _ := rx6
              exact ⟨.agg #[.int .i64 p.x, .int .i64 p.y, .int .i64 p.z, .int .i64 4], w, by simp [execOp, go_sem, ex6], Below.refl _ _, fun _ _ => rfl⟩
            · refine mono_val rfl (fun a w hB hk hp => ?_)
              have es5 := (hk 5 (keep_of (by kernel_rfl))).trans (show _ = some (.slice (some ⟨be, oe, none⟩) 2 me) from rfl)
              exact ⟨.slice (some ⟨be, oe, none⟩) 2 me, w, by simp [execOp, go_sem, es5], Below.refl _ _, fun _ _ => rfl⟩
            · refine mono_val rfl (fun a w hB hk hp => ?_)
              obtain ⟨x8, ex8, rx8⟩ := hp ⟨8, .data⟩ (by simp) rfl _ _ rfl rfl
              obtain rfl : x8 = _ := rx8
              exact ⟨.pointer (some ⟨be, oe, none⟩), w, by simp [execOp, go_sem, ex8], Below.refl _ _, fun _ _ => rfl⟩
            · refine mono_val rfl (fun a w hB hk hp => ?_)
              obtain ⟨x9, ex9, rx9⟩ := hp ⟨9, .data⟩ (by simp) rfl _ _ rfl rfl
              obtain rfl : x9 = _ := rx9
              have fc0 := (hB.cell (p := ⟨be, oe, none⟩) hbe).trans a0
              have fc1 := (hB.cell (p := ⟨be, oe + 1, none⟩) hbe).trans a1
              have fc2 := (hB.cell (p := ⟨be, oe + 2, none⟩) hbe).trans a2
              have fc3 := (hB.cell (p := ⟨be, oe + 3, none⟩) hbe).trans a3
              exact ⟨.agg #[.int .i64 pa.x, .int .i64 pa.y, .int .i64 pa.z, .int .i64 1], w, ldmS_run _ _ _ 82 _ rfl be (oe) (eval_tmp ex9) _ _ (rng4W fc0 fc1 fc2 fc3) Try.underlying82 rfl (by kernel_rfl), Below.refl _ _, fun _ _ => rfl⟩
            · refine mono_val rfl (fun a w hB hk hp => ?_)
              have es5 := (hk 5 (keep_of (by kernel_rfl))).trans (show _ = some (.slice (some ⟨be, oe, none⟩) 2 me) from rfl)
              exact ⟨.slice (some ⟨be, oe, none⟩) 2 me, w, by simp [execOp, go_sem, es5], Below.refl _ _, fun _ _ => rfl⟩
            · refine mono_val rfl (fun a w hB hk hp => ?_)
              obtain ⟨x11, ex11, rx11⟩ := hp ⟨11, .data⟩ (by simp) rfl _ _ rfl rfl
              obtain rfl : x11 = _ := rx11
              exact ⟨.pointer (some ⟨be, oe + 4, none⟩), w, by simp [execOp, go_sem, ex11], Below.refl _ _, fun _ _ => rfl⟩
            · refine mono_val rfl (fun a w hB hk hp => ?_)
              obtain ⟨x12, ex12, rx12⟩ := hp ⟨12, .data⟩ (by simp) rfl _ _ rfl rfl
              obtain rfl : x12 = _ := rx12
              have fc0 := (hB.cell (p := ⟨be, oe + 4, none⟩) hbe).trans b0
              have fc1 := (hB.cell (p := ⟨be, oe + 4 + 1, none⟩) hbe).trans b1
              have fc2 := (hB.cell (p := ⟨be, oe + 4 + 2, none⟩) hbe).trans b2
              have fc3 := (hB.cell (p := ⟨be, oe + 4 + 3, none⟩) hbe).trans b3
              exact ⟨.agg #[.int .i64 pb.x, .int .i64 pb.y, .int .i64 pb.z, .int .i64 1], w, ldmS_run _ _ _ 82 _ rfl be (oe + 4) (eval_tmp ex12) _ _ (rng4W fc0 fc1 fc2 fc3) Try.underlying82 rfl (by kernel_rfl), Below.refl _ _, fun _ _ => rfl⟩
            · refine mono_val rfl (fun a w hB hk hp => ?_)
              obtain ⟨x7, ex7, rx7⟩ := hp ⟨7, .data⟩ (by simp) rfl _ _ rfl rfl
              obtain rfl : x7 = _ := rx7
              obtain ⟨x10, ex10, rx10⟩ := hp ⟨10, .data⟩ (by simp) rfl _ _ rfl rfl
              obtain rfl : x10 = _ := rx10
              obtain ⟨x13, ex13, rx13⟩ := hp ⟨13, .data⟩ (by simp) rfl _ _ rfl rfl
              obtain rfl : x13 = _ := rx13
              exact ⟨.slice (some ⟨w.heap.size, 0, none⟩) 3 3, w.alloc (.cells #[.int .i64 p.x, .int .i64 p.y, .int .i64 p.z, .int .i64 4, .int .i64 pa.x, .int .i64 pa.y, .int .i64 pa.z, .int .i64 1, .int .i64 pb.x, .int .i64 pb.y, .int .i64 pb.z, .int .i64 1] 82), by simp [execOp, go_sem, ex7, ex10, ex13], bel_alloc (Below.refl _ _) _, fun _ _ => ⟨w.heap.size, rfl, hB.size, WL3 (Blk.new _ _ _ _ rfl)⟩⟩
            · refine mono_call rfl (fun a w hB hk hp => ?_)
              obtain ⟨x14, ex14, rx14⟩ := hp ⟨14, .data⟩ (by simp) rfl _ _ rfl rfl
              obtain ⟨bb, rfl, hbb, hvl⟩ : PW (wr.heap.size) 3 [(p, 4), (pa, 1), (pb, 1)] w x14 := rx14
              exact ⟨27, #[.int .i64 6, .slice (some ⟨bb, 0, none⟩) 3 3], by simp [execOp, go_sem, ex14], (kM w bb hvl).mono fun e w' ⟨h1, h2⟩ => ⟨_, h1, h2, fun _ _ => rfl⟩⟩
            · trivial
          · intro a u4 hB hsz hdf hk hgot
            obtain ⟨v0, ev0, rv0⟩ := hgot 0 _ 40 rfl rfl
            obtain rfl : v0 = _ := rv0
            obtain ⟨v1, ev1, rv1⟩ := hgot 1 _ 41 rfl rfl
            obtain rfl : v1 = _ := rv1
            obtain ⟨v15, ev15, rv15⟩ := hgot 15 _ 55 rfl rfl
            obtain rfl : v15 = _ := rv15
            obtain ⟨f, hf, rfl⟩ := frame_eq hsz hdf hk [40, 41, 42, 43, 44, 45, 46, 47, 48, 49, 50, 51, 52, 53, 54, 55] (by rfl)
            have f40 := hf 40 _ ev0
            have f41 := hf 41 _ ev1
            have f55 := hf 55 _ ev15
            clear hsz hdf hk hgot hf ev0 ev1 ev15
            simp only [List.drop_succ_cons, List.drop_zero, setAll, List.setIfInBounds_toArray, List.set_cons_succ, List.set_cons_zero, f40, f41, f55]
            clear f40 f41 f55
            generalize f 42 = uu42; generalize f 43 = uu43; generalize f 44 = uu44; generalize f 45 = uu45; generalize f 46 = uu46; generalize f 47 = uu47; generalize f 48 = uu48; generalize f 49 = uu49; generalize f 50 = uu50; generalize f 51 = uu51; generalize f 52 = uu52; generalize f 53 = uu53; generalize f 54 = uu54
            have hB3 := bel_trans hBr hB
            have hC3 := hCr.below hB
            have hG3 := hGr.below hB
            clear hB hBr hCr hGr
            obtain ⟨⟨g0, g1, g2⟩, gl, f0, f1, f2⟩ := row3P hG3 hlt
            go_wp2
            go_roundw
            case rel =>
              have hs := ((hG3.set (k * 3) (.int .i64 RR.x)).set (k * 3 + 1) (.int .i64 RR.y)).set (k * 3 + 2) (.int .i64 RR.z)
              have hnx2 := hnx.out
              unfold set3 at hnx2
              rw [hnx2] at hs
              exact ⟨k + 1, by go_num, by omega, bel_set (bel_set (bel_set hB3 (by simp) _) (by simp) _) (by simp) _, ((hC3.far _ _ (by omega)).far _ _ (by omega)).far _ _ (by omega), hs⟩
            case measure => simp [intOf]; omega
        · have hf : el.length < 2 := by omega
          have hq := hfew.out hf
          have hl2 : ¬ (2 : Int) < (el.length : Int) := by omega
          have hl3 : ((el.length : Int) == 2) = false := by simp; omega
          replace hq := Lib.hid hq
          clear hm ht hf
          go_wp2_with (first | ((refine load_net rfl _ rfl W.heap.size rfl N _ hCr ?_); simp only [Act.put, List.setIfInBounds_toArray, List.set_cons_succ, List.set_cons_zero]) | (go_at_call 28; (with_reducible refine kMid.mono ?_); rintro e W3 ⟨rfl, hb3⟩; have hB3 := bel_trans hBr hb3; have hC3 := hCr.below hb3; have hG3 := hGr.below hb3; clear hBr hCr hGr hb3; obtain ⟨⟨g0, g1, g2⟩, gl, f0, f1, f2⟩ := row3P hG3 hlt) | fail)
          go_roundw
          case rel =>
            have hs := ((hG3.set (k * 3) (.int .i64 MM.x)).set (k * 3 + 1) (.int .i64 MM.y)).set (k * 3 + 2) (.int .i64 MM.z)
            have hnx2 := hnx.out
            rw [hq.out] at hnx2
            unfold set3 at hnx2
            rw [hnx2] at hs
            exact ⟨k + 1, by go_num, by omega, bel_set (bel_set (bel_set hB3 (by simp) _) (by simp) _) (by simp) _, ((hC3.far _ _ (by omega)).far _ _ (by omega)).far _ _ (by omega), hs⟩
          case measure => simp [intOf]; omega
    · obtain rfl : k = N.vs.length := by omega
      have hG9 : Blk wr (W.heap.size + 1) 30 (rowCs 3 N.vs.length (pC HF)) := by
        rw [pC_ext (f := HF) (g := fun i => if i < N.vs.length then HF i else Z3) (fun u hu => (if_pos hu).symm)]
        exact hGr
      clear hGr hCr
      go_wp2
      go_ret
      exact ⟨W.heap.size + 1, rfl, by omega, hG9, hBr⟩
end Go.Proofs.Ytpdnaceggpdleab
namespace Go.Proofs.Ytpdnaceggpdleab
open Go.RowKit
set_option linter.unusedVariables false
set_option linter.unusedSimpArgs false
set_option linter.unnecessarySimpa false
set_option maxRecDepth 100000
set_option maxHeartbeats 1000000 in
theorem across_any (W : World) (N : NetD) (a : NetA) (gn gf : Nat) (x0 x1 x2 x3 : Int) (i j : Nat) (hi : i < 4) (hj : j < 4) (hB : Blk W gn 60 (netC N a)) (hF : Blk W gf 36 #[.int .i64 x0, .int .i64 x1, .int .i64 x2, .int .i64 x3]) (hV : VL W a.A1 N.vs)
    (hy : 0 ≤ [x0, x1, x2, x3].getD i 0 ∧ [x0, x1, x2, x3].getD i 0 < N.vs.length) (hz : 0 ≤ [x0, x1, x2, x3].getD j 0 ∧ [x0, x1, x2, x3].getD j 0 < N.vs.length) :
    Calls Try.prog 29 #[.int .i64 (i : Int), .int .i64 (j : Int), .pointer (some ⟨gn, 0, none⟩), .pointer (some ⟨gf, 0, none⟩)] W fun e W' => e = .returned (.agg #[.int .i64 (sbW (vat N.vs ([x0, x1, x2, x3].getD j 0)) (vat N.vs ([x0, x1, x2, x3].getD i 0))).x, .int .i64 (sbW (vat N.vs ([x0, x1, x2, x3].getD j 0)) (vat N.vs ([x0, x1, x2, x3].getD i 0))).y, .int .i64 (sbW (vat N.vs ([x0, x1, x2, x3].getD j 0)) (vat N.vs ([x0, x1, x2, x3].getD i 0))).z]) ∧ Below W.heap.size W W' := by
  have cf := cell4 hF hi
  have cg := cell4 hF hj
  generalize [x0, x1, x2, x3].getD i 0 = y at *
  generalize [x0, x1, x2, x3].getD j 0 = z at *
  obtain ⟨n, bv, ov, rfl, hn, hA, hbl, c0, c1, c2⟩ := hV.vat_ hy.1 hy.2
  obtain ⟨m, bv2, ov2, rfl, hm, hA2, hbl2, c3, c4, c5⟩ := hV.vat_ hz.1 hz.2
  obtain ⟨rfl, rfl⟩ : bv = bv2 ∧ ov = ov2 := by simpa using hA.symm.trans hA2
  have y3 : W.cell? ⟨gn, 3, none⟩ = some (.slice (some ⟨bv, ov, none⟩) N.vs.length a.k1) := by rw [← hA]; exact hB.cell 3
  have fl := hF.lt
  have nl := hB.lt
  generalize vat N.vs (n : Int) = p at *
  generalize vat N.vs (m : Int) = q at *
  have k1 : Gives Try.prog 30 #[.agg #[.int .i64 q.x, .int .i64 q.y, .int .i64 q.z], .agg #[.int .i64 p.x, .int .i64 p.y, .int .i64 p.z]] (.agg #[.int .i64 (sbW q p).x, .int .i64 (sbW q p).y, .int .i64 (sbW q p).z]) := vSub_any q.x q.y q.z p.x p.y p.z
  generalize sbW q p = s at *
  have hb1 : Below W.heap.size W (W.alloc (.cells #[.int .i64 0, .int .i64 0, .int .i64 0] 30)) := bel_alloc (Below.refl _ _) _
  have hR1 : Blk (W.alloc (.cells #[.int .i64 0, .int .i64 0, .int .i64 0] 30)) W.heap.size 30 #[.int .i64 0, .int .i64 0, .int .i64 0] := Blk.new _ _ _ _ rfl
  have tr := fun (b j : Nat) (v : Value) (hb : b < W.heap.size) (h : W.cell? ⟨b, j, none⟩ = some v) => (hb1.cell (p := ⟨b, j, none⟩) hb).trans h
  replace cf := tr _ _ _ fl cf
  replace cg := tr _ _ _ fl cg
  replace c0 := tr _ _ _ hbl c0
  replace c1 := tr _ _ _ hbl c1
  replace c2 := tr _ _ _ hbl c2
  replace c3 := tr _ _ _ hbl c3
  replace c4 := tr _ _ _ hbl c4
  replace c5 := tr _ _ _ hbl c5
  replace y3 := tr _ _ _ nl y3
  have q0 : (0 : Int) ≤ (i : Int) := by omega
  have q1 : (i : Int) < 4 := by omega
  have q2 : (0 : Int) ≤ (j : Int) := by omega
  have q3 : (j : Int) < 4 := by omega
  have q4 : (0 : Int) ≤ (n : Int) := by omega
  have q5 : (n : Int) < (N.vs.length : Int) := by omega
  have q6 : (0 : Int) ≤ (m : Int) := by omega
  have q7 : (m : Int) < (N.vs.length : Int) := by omega
  clear hy hz hA hA2 hB hF hV tr hbl2
  go_enter Try.func29, Try.ntmps29
  go_upto_region 1 with (fail)
  generalize W.alloc (.cells #[.int .i64 0, .int .i64 0, .int .i64 0] 30) = W1 at *
  have l2 : gf < W1.heap.size := Nat.lt_of_lt_of_le fl hb1.size
  have l3 : gn < W1.heap.size := Nat.lt_of_lt_of_le nl hb1.size
  have l4 : bv < W1.heap.size := Nat.lt_of_lt_of_le hbl hb1.size
  refine wp_region_tail 15 ?_ (by kernel_rfl) (by kernel_rfl) (by kernel_rfl) (fun x => ?_) (fun x => ?_)
  rotate_left
  · simp only [List.take_succ_cons, List.take_zero]
    repeat (go_big_quiet_step (((first | with_reducible exact k1.quiet _ | with_reducible exact k1.quiet2 _ _))))
    refine wpQuiet_nil ?_
    exact rfl
  simp only [List.drop_succ_cons, List.drop_zero]
  try simp only [Act.put, List.setIfInBounds_toArray, List.set_cons_succ, List.set_cons_zero]
  have hR2 := hR1.grow x
  have hb2 := bel_grow hb1 x
  clear hR1 hb1 cf cg c0 c1 c2 c3 c4 c5 y3 l2 l3 l4 k1
  generalize grow W1 x = W2 at *
  have r0 := hR2.cell 0
  have r1 := hR2.cell 1
  have r2 := hR2.cell 2
  have rl := hR2.lt
  have e0 := hR2.frozen 0
  have e1 := hR2.frozen 1
  have e2 := hR2.frozen 2
  replace hR2 := Lib.hid hR2
  replace hb2 := Lib.hid hb2
  go_wp2
  replace hR2 := hR2.out
  replace hb2 := hb2.out
  have hRe := (((hR2.set 0 (.int .i64 s.x)).set 1 (.int .i64 s.y)).set 2 (.int .i64 s.z))
  have hBe : Below W.heap.size W (((W2.setCell ⟨W.heap.size, 0, none⟩ (.int .i64 s.x)).setCell ⟨W.heap.size, 1, none⟩ (.int .i64 s.y)).setCell ⟨W.heap.size, 2, none⟩ (.int .i64 s.z)) := (bel_set (bel_set (bel_set hb2 (p := ⟨W.heap.size, 0, none⟩) (by simp) (.int .i64 s.x)) (p := ⟨W.heap.size, 1, none⟩) (by simp) (.int .i64 s.y)) (p := ⟨W.heap.size, 2, none⟩) (by simp) (.int .i64 s.z))
  generalize (((W2.setCell ⟨W.heap.size, 0, none⟩ (.int .i64 s.x)).setCell ⟨W.heap.size, 1, none⟩ (.int .i64 s.y)).setCell ⟨W.heap.size, 2, none⟩ (.int .i64 s.z)) = We at *
  have we0 : We.cell? ⟨W.heap.size, 0, none⟩ = some (.int .i64 s.x) := hRe.cell 0
  have we1 : We.cell? ⟨W.heap.size, 1, none⟩ = some (.int .i64 s.y) := hRe.cell 1
  have we2 : We.cell? ⟨W.heap.size, 2, none⟩ = some (.int .i64 s.z) := hRe.cell 2
  refine bodyPost_ret (v := .agg #[.int .i64 s.x, .int .i64 s.y, .int .i64 s.z]) (by simp [results, Try.results29, go_sem, we0, we1, we2]) rfl ⟨rfl, hBe⟩
theorem ups_take {N : NetD} {k : Nat} (hk : k < N.fs.length) (v : Int) : N.ups (N.fs.take (k + 1)) v = if v ∈ N.fs[k] then adW (N.ups (N.fs.take k) v) (N.up N.fs[k]) else N.ups (N.fs.take k) v := by
  unfold NetD.ups
  rw [List.take_succ_eq_append_getElem hk, List.filterMap_append]
  by_cases h : v ∈ N.fs[k]
  · rw [if_pos h]
    simp only [List.filterMap_cons, if_pos h, List.filterMap_nil]
    rw [foldP_snoc]
  · rw [if_neg h]
    simp only [List.filterMap_cons, if_neg h, List.filterMap_nil, List.append_nil]
def updF (f : Nat → P3) (y : Nat) (u : P3) : Nat → P3 := fun v => if v = y then adW (f y) u else f v
theorem upd4 (f : Nat → P3) {y0 y1 y2 y3 : Nat} (u : P3) (h01 : y0 ≠ y1) (h02 : y0 ≠ y2) (h03 : y0 ≠ y3) (h12 : y1 ≠ y2) (h13 : y1 ≠ y3) (h23 : y2 ≠ y3) (v : Nat) :
    updF (updF (updF (updF f y0 u) y1 u) y2 u) y3 u v = if (v : Int) ∈ [(y0 : Int), (y1 : Int), (y2 : Int), (y3 : Int)] then adW (f v) u else f v := by
  unfold updF
  have e : (v : Int) ∈ [(y0 : Int), (y1 : Int), (y2 : Int), (y3 : Int)] ↔ v = y0 ∨ v = y1 ∨ v = y2 ∨ v = y3 := by simp; omega
  by_cases a : v = y3
  · subst a; rw [if_pos (e.2 (by omega))]; simp [h03.symm, h13.symm, h23.symm]
  by_cases b : v = y2
  · subst b; rw [if_pos (e.2 (by omega))]; simp [a, h02.symm, h12.symm]
  by_cases c : v = y1
  · subst c; rw [if_pos (e.2 (by omega))]; simp [a, b, h01.symm]
  by_cases d : v = y0
  · subst d; rw [if_pos (e.2 (by omega))]; simp [a, b, c]
  · rw [if_neg (show ¬ ((v : Int) ∈ [(y0 : Int), (y1 : Int), (y2 : Int), (y3 : Int)]) from fun h => by rcases e.1 h with h | h | h | h <;> omega)]; simp [a, b, c, d]
theorem foldP_I3z (l : List P3) : I3 (foldP Z3 l) := fold_I3 Z3 l ⟨⟨by decide, by decide⟩, ⟨by decide, by decide⟩, ⟨by decide, by decide⟩⟩
set_option maxHeartbeats 8000000 in
theorem normals_any (W : World) (N : NetD) (a : NetA) (hN : NetV W N a) (ok : NetOk N) :
    Calls Try.prog 16 #[.agg (netC N a)] W fun e W' => ∃ g, e = .returned (.slice (some ⟨g, 0, none⟩) N.vs.length N.vs.length) ∧ W.heap.size ≤ g ∧ Blk W' g 30 (rowCs 3 N.vs.length (pC fun v : Nat => N.normal (v : Int))) ∧ Below W.heap.size W W' := by
  obtain ⟨B1, B2, B3, A1, Q, S, E, d1, d2, d3, k1, k2, k3, k4⟩ := a
  obtain ⟨i0, hi0, hz0, hz1, hz2⟩ := info_parts infoV
  have hb0 : Below W.heap.size W (W.alloc (.cells (netC N ⟨B1, B2, B3, A1, Q, S, E, d1, d2, d3, k1, k2, k3, k4⟩) 60)) := bel_alloc (Below.refl _ _) _
  have hC0 : Blk (W.alloc (.cells (netC N ⟨B1, B2, B3, A1, Q, S, E, d1, d2, d3, k1, k2, k3, k4⟩) 60)) W.heap.size 60 (netC N ⟨B1, B2, B3, A1, Q, S, E, d1, d2, d3, k1, k2, k3, k4⟩) := Blk.new _ _ _ _ rfl
  have hsz0 : (W.alloc (.cells (netC N ⟨B1, B2, B3, A1, Q, S, E, d1, d2, d3, k1, k2, k3, k4⟩) 60)).heap.size = W.heap.size + 1 := World.size_alloc _ _
  have hnv := ok.nv
  have hnf := ok.nfs
  obtain ⟨HF, hHF⟩ : ∃ f : Nat → P3, f = fun v : Nat => N.normal (v : Int) := ⟨_, rfl⟩
  rw [← hHF]
  replace hHF := Lib.hid hHF
  obtain ⟨UF, hUF⟩ : ∃ f : Nat → Nat → P3, f = fun k v : Nat => N.ups (N.fs.take k) (v : Int) := ⟨_, rfl⟩
  have hU0 : UF 0 = fun _ => Z3 := by rw [hUF]; funext v; simp [NetD.ups, foldP]
  replace hUF := Lib.hid hUF
  replace hN := Lib.hid hN
  replace ok := Lib.hid ok
  go_enter Try.func16, Try.ntmps16
  go_upto_region 1 with (fail)
  generalize W.alloc (.cells (netC N ⟨B1, B2, B3, A1, Q, S, E, d1, d2, d3, k1, k2, k3, k4⟩) 60) = W0 at *
  have x3 : W0.cell? ⟨W.heap.size, 3, none⟩ = some (.slice A1 N.vs.length k1) := hC0.cell 3
  have xl := hC0.lt
  go_upto_region 2 with (first | ((refine wpList_make_full _ rfl _ _ 22 rfl W0.heap.size 30 i0 _ 3 Try.underlying22 hi0 hz0 hz1 .i64 .i64 (N.vs.length : Int) (N.vs.length : Int) N.vs.length rfl rfl rfl rfl (by rw [hz2]; omega) (by unfold maxLen; omega) (Nat.le_refl _) ?_); intro W1 own1 hg1) | fail)
  have hG1 : Blk W1 W0.heap.size 30 (rowCs 3 N.vs.length (pC (UF 0))) := by
    have := made_blk own1
    rw [show (Value.agg #[Value.int .i64 0, Value.int .i64 0, Value.int .i64 0]).cells = #[.int .i64 Z3.x, .int .i64 Z3.y, .int .i64 Z3.z] from rfl, pC_made] at this
    rw [hU0]
    exact this
  have hb1 : Below W0.heap.size W0 W1 := bel_own (Below.refl _ _) hg1 (by intro k h; cases h)
  have hC1 := hC0.below hb1
  have hB1 := bel_trans hb0 hb1
  rw [hsz0] at hG1
  clear own1 hg1 hb1 hC0 hb0 x3 xl hU0
  have x4 : W1.cell? ⟨W.heap.size, 4, none⟩ = some (.slice Q N.fs.length k2) := hC1.cell 4
  have xl := hC1.lt
  go_wp2
  go_loopw [18] (fun iv wr => ∃ k : Nat, iv = .int .i64 (k : Int) ∧ k ≤ N.fs.length ∧ Below W.heap.size W wr ∧ Blk wr W.heap.size 60 (netC N ⟨B1, B2, B3, A1, Q, S, E, d1, d2, d3, k1, k2, k3, k4⟩) ∧ Blk wr (W.heap.size + 1) 30 (rowCs 3 N.vs.length (pC (UF k)))) (fun iv _ => N.fs.length - (intOf iv).toNat)
  case atStart => exact ⟨0, rfl, by omega, hB1, hC1, hG1⟩
  case round =>
    obtain ⟨k, rfl, hk, hBr, hCr, hGr⟩ := hrel
    clear hB1 hC1 hG1 x4 xl
    rename World => wr
    by_cases hlt : k < N.fs.length
    · have hNr := hN.out.below hBr
      obtain ⟨bq, oq, rfl, hql, hqc⟩ : ∃ b off, Q = some ⟨b, off, none⟩ ∧ b < wr.heap.size ∧ ∀ j, j < 4 → wr.cell? ⟨b, off + k * 4 + j, none⟩ = some (.int .i64 (N.fs[k].getD j 0)) := by
        obtain ⟨b, off, h1, h2, h3⟩ := hNr.fs (by omega)
        exact ⟨b, off, h1, h2, fun j hj => h3 k hlt j hj⟩
      obtain ⟨h4, hin⟩ := ok.out.four _ (List.getElem_mem hlt)
      have hnd := ok.out.nodup _ (List.getElem_mem hlt)
      have hup : N.up N.fs[k] = crW (sbW (vat N.vs (N.fs[k].getD 2 0)) (vat N.vs (N.fs[k].getD 0 0))) (sbW (vat N.vs (N.fs[k].getD 3 0)) (vat N.vs (N.fs[k].getD 1 0))) := rfl
      have hnx : ∀ v : Nat, UF (k + 1) v = if (v : Int) ∈ N.fs[k] then adW (UF k v) (N.up N.fs[k]) else UF k v := fun v => by rw [hUF.out]; exact ups_take hlt _
      obtain ⟨x0, x1, x2, x3, hx⟩ := four_of h4
      generalize N.up N.fs[k] = U at *
      rw [hx] at hin hqc hnd hup hnx
      have c0 := hqc 0 (by omega)
      have c1 := hqc 1 (by omega)
      have c2 := hqc 2 (by omega)
      have c3 := hqc 3 (by omega)
      simp only [List.getD_cons_zero, List.getD_cons_succ, Nat.add_zero] at c0 c1 c2 c3
      clear hqc h4 hx
      have hyr : ∀ m, m < 4 → 0 ≤ [x0, x1, x2, x3].getD m 0 ∧ [x0, x1, x2, x3].getD m 0 < N.vs.length := fun m hm => hin _ (by rw [List.getD_eq_getElem?_getD, List.getElem?_eq_getElem (by simpa using hm)]; exact List.getElem_mem _)
      have kA1 : ∀ (u : World) (gf : Nat), Below wr.heap.size wr u → Blk u W.heap.size 60 (netC N ⟨B1, B2, B3, A1, some ⟨bq, oq, none⟩, S, E, d1, d2, d3, k1, k2, k3, k4⟩) → Blk u gf 36 #[.int .i64 x0, .int .i64 x1, .int .i64 x2, .int .i64 x3] → Calls Try.prog 29 #[.int .i64 0, .int .i64 2, .pointer (some ⟨W.heap.size, 0, none⟩), .pointer (some ⟨gf, 0, none⟩)] u fun e W' => e = .returned (.agg #[.int .i64 (sbW (vat N.vs ([x0, x1, x2, x3].getD 2 0)) (vat N.vs ([x0, x1, x2, x3].getD 0 0))).x, .int .i64 (sbW (vat N.vs ([x0, x1, x2, x3].getD 2 0)) (vat N.vs ([x0, x1, x2, x3].getD 0 0))).y, .int .i64 (sbW (vat N.vs ([x0, x1, x2, x3].getD 2 0)) (vat N.vs ([x0, x1, x2, x3].getD 0 0))).z]) ∧ Below u.heap.size u W' := fun u gf hb hB hF => across_any u N _ W.heap.size gf x0 x1 x2 x3 0 2 (by omega) (by omega) hB hF (hNr.vs.below hb) (hyr 0 (by omega)) (hyr 2 (by omega))
      have kA2 : ∀ (u : World) (gf : Nat), Below wr.heap.size wr u → Blk u W.heap.size 60 (netC N ⟨B1, B2, B3, A1, some ⟨bq, oq, none⟩, S, E, d1, d2, d3, k1, k2, k3, k4⟩) → Blk u gf 36 #[.int .i64 x0, .int .i64 x1, .int .i64 x2, .int .i64 x3] → Calls Try.prog 29 #[.int .i64 1, .int .i64 3, .pointer (some ⟨W.heap.size, 0, none⟩), .pointer (some ⟨gf, 0, none⟩)] u fun e W' => e = .returned (.agg #[.int .i64 (sbW (vat N.vs ([x0, x1, x2, x3].getD 3 0)) (vat N.vs ([x0, x1, x2, x3].getD 1 0))).x, .int .i64 (sbW (vat N.vs ([x0, x1, x2, x3].getD 3 0)) (vat N.vs ([x0, x1, x2, x3].getD 1 0))).y, .int .i64 (sbW (vat N.vs ([x0, x1, x2, x3].getD 3 0)) (vat N.vs ([x0, x1, x2, x3].getD 1 0))).z]) ∧ Below u.heap.size u W' := fun u gf hb hB hF => across_any u N _ W.heap.size gf x0 x1 x2 x3 1 3 (by omega) (by omega) hB hF (hNr.vs.below hb) (hyr 1 (by omega)) (hyr 3 (by omega))
      generalize sbW (vat N.vs ([x0, x1, x2, x3].getD 2 0)) (vat N.vs ([x0, x1, x2, x3].getD 0 0)) = sA at *
      generalize sbW (vat N.vs ([x0, x1, x2, x3].getD 3 0)) (vat N.vs ([x0, x1, x2, x3].getD 1 0)) = sB at *
      have kX : Gives Try.prog 31 #[.agg #[.int .i64 sA.x, .int .i64 sA.y, .int .i64 sA.z], .agg #[.int .i64 sB.x, .int .i64 sB.y, .int .i64 sB.z]] (.agg #[.int .i64 U.x, .int .i64 U.y, .int .i64 U.z]) := by rw [hup]; exact vCross_any sA.x sA.y sA.z sB.x sB.y sB.z
      clear hup
      obtain ⟨⟨h00, h01⟩, ⟨h10, h11⟩, ⟨h20, h21⟩, h30, h31⟩ : (0 ≤ x0 ∧ x0 < N.vs.length) ∧ (0 ≤ x1 ∧ x1 < N.vs.length) ∧ (0 ≤ x2 ∧ x2 < N.vs.length) ∧ 0 ≤ x3 ∧ x3 < N.vs.length := ⟨hyr 0 (by omega), hyr 1 (by omega), hyr 2 (by omega), hyr 3 (by omega)⟩
      clear hyr hin hNr
      obtain ⟨y0, rfl⟩ := Int.eq_ofNat_of_zero_le h00
      obtain ⟨y1, rfl⟩ := Int.eq_ofNat_of_zero_le h10
      obtain ⟨y2, rfl⟩ := Int.eq_ofNat_of_zero_le h20
      obtain ⟨y3, rfl⟩ := Int.eq_ofNat_of_zero_le h30
      have hF4 : rowCs 3 N.vs.length (pC (updF (updF (updF (updF (UF k) y0 U) y1 U) y2 U) y3 U)) = rowCs 3 N.vs.length (pC (UF (k + 1))) := by
        simp only [List.nodup_cons, List.mem_cons, List.not_mem_nil, or_false, not_or, List.nodup_nil, and_true, not_false_eq_true] at hnd
        exact pC_ext fun v hv => by rw [hnx, upd4 (UF k) U (by omega) (by omega) (by omega) (by omega) (by omega) (by omega)]
      replace hF4 := Lib.hid hF4
      clear hnx hnd
      have q0 : (0 : Int) ≤ (k : Int) := by omega
      have q1 : (k : Int) < (N.fs.length : Int) := by omega
      have x4 : wr.cell? ⟨W.heap.size, 4, none⟩ = some (.slice (some ⟨bq, oq, none⟩) N.fs.length k2) := hCr.cell 4
      go_upto_region 5 with (fail)
      have hb2 : Below wr.heap.size wr (wr.alloc (.cells #[.int .i64 (y0 : Int), .int .i64 (y1 : Int), .int .i64 (y2 : Int), .int .i64 (y3 : Int)] 36)) := bel_alloc (Below.refl _ _) _
      have hF2 : Blk (wr.alloc (.cells #[.int .i64 (y0 : Int), .int .i64 (y1 : Int), .int .i64 (y2 : Int), .int .i64 (y3 : Int)] 36)) wr.heap.size 36 #[.int .i64 (y0 : Int), .int .i64 (y1 : Int), .int .i64 (y2 : Int), .int .i64 (y3 : Int)] := Blk.new _ _ _ _ rfl
      have hC2 := hCr.below hb2
      have hG2 := hGr.below hb2
      have hB2 := bel_trans hBr hb2
      have hgl := hGr.lt
      clear hCr hGr hBr c0 c1 c2 c3 x4 hql
      generalize wr.alloc (.cells #[.int .i64 (y0 : Int), .int .i64 (y1 : Int), .int .i64 (y2 : Int), .int .i64 (y3 : Int)] 36) = W2 at *
      go_upto_region 7 with (first | (go_at_call 29; first | ((with_reducible refine (kA1 _ _ hb2 hC2 hF2).mono ?_); rintro e W3 ⟨rfl, hb3⟩; have hC3 := hC2.below hb3; have hG3 := hG2.below hb3; have hF3 := hF2.below hb3; have hB3 := bel_trans hB2 hb3; have hbb3 := bel_trans hb2 hb3) | ((with_reducible refine (kA2 _ _ hbb3 hC3 hF3).mono ?_); rintro e W4 ⟨rfl, hb4⟩; have hC4 := hC3.below hb4; have hG4 := hG3.below hb4; have hF4b := hF3.below hb4; have hB4 := bel_trans hB3 hb4)) | (go_at_call 31; (with_reducible refine (kX.at_ _).mono ?_); rintro e W5 ⟨rfl, xg, hW5⟩; have hC5 := hW5 ▸ hC4.grow xg; have hG5 := hW5 ▸ hG4.grow xg; have hF5 := hW5 ▸ hF4b.grow xg; have hB5 : Below W.heap.size W W5 := hW5 ▸ bel_grow hB4 xg; clear hW5 hC3 hC4 hG3 hG4 hF3 hF4b hB3 hB4 hb3 hb4 hbb3) | fail)
      have hU6 : Blk (W5.alloc (.cells #[.int .i64 U.x, .int .i64 U.y, .int .i64 U.z] 30)) W5.heap.size 30 #[.int .i64 U.x, .int .i64 U.y, .int .i64 U.z] := Blk.new _ _ _ _ rfl
      have hC6 := hC5.alloc (.cells #[.int .i64 U.x, .int .i64 U.y, .int .i64 U.z] 30)
      have hG6 := hG5.alloc (.cells #[.int .i64 U.x, .int .i64 U.y, .int .i64 U.z] 30)
      have hF6 := hF5.alloc (.cells #[.int .i64 U.x, .int .i64 U.y, .int .i64 U.z] 30)
      have hB6 : Below W.heap.size W (W5.alloc (.cells #[.int .i64 U.x, .int .i64 U.y, .int .i64 U.z] 30)) := bel_alloc hB5 _
      have hgu : W.heap.size + 1 < W5.heap.size := hG5.lt
      clear hC5 hG5 hF5 hB5 hb2 hC2 hF2 hG2 hB2 kA1 kA2 kX
      generalize W5.alloc (.cells #[.int .i64 U.x, .int .i64 U.y, .int .i64 U.z] 30) = W6 at *
      generalize W5.heap.size = gu at *
      generalize wr.heap.size = gf at *
      have p0 := hF6.cell 0
      have p1 := hF6.cell 1
      have p2 := hF6.cell 2
      have p3 := hF6.cell 3
      have pl := hF6.lt
      go_wp2
      clear p0 p1 p2 p3 pl hF6
      obtain ⟨D0, hD0⟩ : ∃ f : Nat → P3, f = UF k := ⟨_, rfl⟩
      obtain ⟨D1, hD1⟩ : ∃ f : Nat → P3, f = updF D0 y0 U := ⟨_, rfl⟩
      obtain ⟨D2, hD2⟩ : ∃ f : Nat → P3, f = updF D1 y1 U := ⟨_, rfl⟩
      obtain ⟨D3, hD3⟩ : ∃ f : Nat → P3, f = updF D2 y2 U := ⟨_, rfl⟩
      obtain ⟨D4, hD4⟩ : ∃ f : Nat → P3, f = updF D3 y3 U := ⟨_, rfl⟩
      have hF5 := hF4.out
      rw [← hD0, ← hD1, ← hD2, ← hD3, ← hD4] at hF5
      rw [← hD0] at hG6
      replace hF5 := Lib.hid hF5
      replace hD0 := Lib.hid hD0
      replace hD1 := Lib.hid hD1
      replace hD2 := Lib.hid hD2
      replace hD3 := Lib.hid hD3
      replace hD4 := Lib.hid hD4
      go_loopw [29] (fun iv wq => Below W.heap.size W wq ∧ Blk wq W.heap.size 60 (netC N ⟨B1, B2, B3, A1, some ⟨bq, oq, none⟩, S, E, d1, d2, d3, k1, k2, k3, k4⟩) ∧ Blk wq gu 30 #[.int .i64 U.x, .int .i64 U.y, .int .i64 U.z] ∧ ((iv = .int .i64 0 ∧ Blk wq (W.heap.size + 1) 30 (rowCs 3 N.vs.length (pC D0))) ∨ (iv = .int .i64 1 ∧ Blk wq (W.heap.size + 1) 30 (rowCs 3 N.vs.length (pC D1))) ∨ (iv = .int .i64 2 ∧ Blk wq (W.heap.size + 1) 30 (rowCs 3 N.vs.length (pC D2))) ∨ (iv = .int .i64 3 ∧ Blk wq (W.heap.size + 1) 30 (rowCs 3 N.vs.length (pC D3))) ∨ (iv = .int .i64 4 ∧ Blk wq (W.heap.size + 1) 30 (rowCs 3 N.vs.length (pC D4))))) (fun iv _ => 4 - (intOf iv).toNat)
      case atStart => exact ⟨hB6, hC6, hU6, .inl ⟨rfl, hG6⟩⟩
      case round =>
        obtain ⟨hBq, hCq, hUq, hi⟩ := hrel
        clear hB6 hC6 hU6 hG6
        rename World => wq
        rcases hi with ⟨rfl, hGq⟩ | ⟨rfl, hGq⟩ | ⟨rfl, hGq⟩ | ⟨rfl, hGq⟩ | ⟨rfl, hGq⟩
        · have hy : y0 < N.vs.length := by omega
          have hnx := pC_set D0 hy (adW (D0 y0) U)
          have hst : rowCs 3 N.vs.length (pC fun u => if u = y0 then adW (D0 y0) U else D0 u) = rowCs 3 N.vs.length (pC D1) := by rw [hD1.out]; rfl
          rw [hst] at hnx
          clear hst
          obtain ⟨⟨g0, g1, g2⟩, gl, f0, f1, f2⟩ := row3P hGq hy
          simp only [pC, if_true, if_false, Nat.one_ne_zero, show ¬ (2 : Nat) = 0 by omega, show ¬ (2 : Nat) = 1 by omega] at g0 g1 g2
          have u0 := hUq.cell 0
          have u1 := hUq.cell 1
          have u2 := hUq.cell 2
          have ul := hUq.lt
          have kA : Gives Try.prog 32 #[.agg #[.int .i64 (D0 y0).x, .int .i64 (D0 y0).y, .int .i64 (D0 y0).z], .agg #[.int .i64 U.x, .int .i64 U.y, .int .i64 U.z]] (.agg #[.int .i64 (adW (D0 y0) U).x, .int .i64 (adW (D0 y0) U).y, .int .i64 (adW (D0 y0) U).z]) := vAdd_any _ _ _ _ _ _
          generalize adW (D0 y0) U = nw at *
          generalize D0 y0 = od at *
          replace hnx := Lib.hid hnx
          have z0 : (0 : Int) ≤ (y0 : Int) := by omega
          go_upto_region 9 with (fail)
          refine wp_region_lit ?_
          refine wpList_val rfl (.int .i64 (y0 : Int)) wq (by kernel_rfl) ?_
          simp only [Act.put, List.setIfInBounds_toArray, List.set_cons_succ, List.set_cons_zero]
          go_upto_region 10 with (fail)
          refine wp_region_tail 9 ?_ (by kernel_rfl) (by kernel_rfl) (by kernel_rfl) (fun x => ?_) (fun x => ?_)
          rotate_left
          · simp only [List.take_succ_cons, List.take_zero]
            repeat (go_big_quiet_step (((first | with_reducible exact kA.quiet _ | with_reducible exact kA.quiet2 _ _))))
            refine wpQuiet_nil ?_
            exact rfl
          simp only [List.drop_succ_cons, List.drop_zero]
          try simp only [Act.put, List.setIfInBounds_toArray, List.set_cons_succ, List.set_cons_zero]
          have hC7 := hCq.grow x
          have hU7 := hUq.grow x
          have hG7 := hGq.grow x
          have hB7 := bel_grow hBq x
          clear hCq hUq hGq hBq u0 u1 u2 ul g0 g1 g2 gl f0 f1 f2 kA
          generalize grow wq x = W7 at *
          obtain ⟨⟨g0, g1, g2⟩, gl, f0, f1, f2⟩ := row3P hG7 hy
          go_wp2
          go_roundw
          case rel =>
            have hs := ((hG7.set (y0 * 3) (.int .i64 nw.x)).set (y0 * 3 + 1) (.int .i64 nw.y)).set (y0 * 3 + 2) (.int .i64 nw.z)
            have hnx2 := hnx.out
            unfold set3 at hnx2
            rw [hnx2] at hs
            exact ⟨bel_set (bel_set (bel_set hB7 (by simp) _) (by simp) _) (by simp) _, ((hC7.far _ _ (by omega)).far _ _ (by omega)).far _ _ (by omega), ((hU7.far _ _ (by omega)).far _ _ (by omega)).far _ _ (by omega), .inr (.inl ⟨rfl, hs⟩)⟩
          case measure => simp [intOf]
        · have hy : y1 < N.vs.length := by omega
          have hnx := pC_set D1 hy (adW (D1 y1) U)
          have hst : rowCs 3 N.vs.length (pC fun u => if u = y1 then adW (D1 y1) U else D1 u) = rowCs 3 N.vs.length (pC D2) := by rw [hD2.out]; rfl
          rw [hst] at hnx
          clear hst
          obtain ⟨⟨g0, g1, g2⟩, gl, f0, f1, f2⟩ := row3P hGq hy
          simp only [pC, if_true, if_false, Nat.one_ne_zero, show ¬ (2 : Nat) = 0 by omega, show ¬ (2 : Nat) = 1 by omega] at g0 g1 g2
          have u0 := hUq.cell 0
          have u1 := hUq.cell 1
          have u2 := hUq.cell 2
          have ul := hUq.lt
          have kA : Gives Try.prog 32 #[.agg #[.int .i64 (D1 y1).x, .int .i64 (D1 y1).y, .int .i64 (D1 y1).z], .agg #[.int .i64 U.x, .int .i64 U.y, .int .i64 U.z]] (.agg #[.int .i64 (adW (D1 y1) U).x, .int .i64 (adW (D1 y1) U).y, .int .i64 (adW (D1 y1) U).z]) := vAdd_any _ _ _ _ _ _
          generalize adW (D1 y1) U = nw at *
          generalize D1 y1 = od at *
          replace hnx := Lib.hid hnx
          have z0 : (0 : Int) ≤ (y1 : Int) := by omega
          go_upto_region 9 with (fail)
          refine wp_region_lit ?_
          refine wpList_val rfl (.int .i64 (y1 : Int)) wq (by kernel_rfl) ?_
          simp only [Act.put, List.setIfInBounds_toArray, List.set_cons_succ, List.set_cons_zero]
          go_upto_region 10 with (fail)
          refine wp_region_tail 9 ?_ (by kernel_rfl) (by kernel_rfl) (by kernel_rfl) (fun x => ?_) (fun x => ?_)
          rotate_left
          · simp only [List.take_succ_cons, List.take_zero]
            repeat (go_big_quiet_step (((first | with_reducible exact kA.quiet _ | with_reducible exact kA.quiet2 _ _))))
            refine wpQuiet_nil ?_
            exact rfl
          simp only [List.drop_succ_cons, List.drop_zero]
          try simp only [Act.put, List.setIfInBounds_toArray, List.set_cons_succ, List.set_cons_zero]
          have hC7 := hCq.grow x
          have hU7 := hUq.grow x
          have hG7 := hGq.grow x
          have hB7 := bel_grow hBq x
          clear hCq hUq hGq hBq u0 u1 u2 ul g0 g1 g2 gl f0 f1 f2 kA
          generalize grow wq x = W7 at *
          obtain ⟨⟨g0, g1, g2⟩, gl, f0, f1, f2⟩ := row3P hG7 hy
          go_wp2
          go_roundw
          case rel =>
            have hs := ((hG7.set (y1 * 3) (.int .i64 nw.x)).set (y1 * 3 + 1) (.int .i64 nw.y)).set (y1 * 3 + 2) (.int .i64 nw.z)
            have hnx2 := hnx.out
            unfold set3 at hnx2
            rw [hnx2] at hs
            exact ⟨bel_set (bel_set (bel_set hB7 (by simp) _) (by simp) _) (by simp) _, ((hC7.far _ _ (by omega)).far _ _ (by omega)).far _ _ (by omega), ((hU7.far _ _ (by omega)).far _ _ (by omega)).far _ _ (by omega), .inr (.inr (.inl ⟨rfl, hs⟩))⟩
          case measure => simp [intOf]
        · have hy : y2 < N.vs.length := by omega
          have hnx := pC_set D2 hy (adW (D2 y2) U)
          have hst : rowCs 3 N.vs.length (pC fun u => if u = y2 then adW (D2 y2) U else D2 u) = rowCs 3 N.vs.length (pC D3) := by rw [hD3.out]; rfl
          rw [hst] at hnx
          clear hst
          obtain ⟨⟨g0, g1, g2⟩, gl, f0, f1, f2⟩ := row3P hGq hy
          simp only [pC, if_true, if_false, Nat.one_ne_zero, show ¬ (2 : Nat) = 0 by omega, show ¬ (2 : Nat) = 1 by omega] at g0 g1 g2
          have u0 := hUq.cell 0
          have u1 := hUq.cell 1
          have u2 := hUq.cell 2
          have ul := hUq.lt
          have kA : Gives Try.prog 32 #[.agg #[.int .i64 (D2 y2).x, .int .i64 (D2 y2).y, .int .i64 (D2 y2).z], .agg #[.int .i64 U.x, .int .i64 U.y, .int .i64 U.z]] (.agg #[.int .i64 (adW (D2 y2) U).x, .int .i64 (adW (D2 y2) U).y, .int .i64 (adW (D2 y2) U).z]) := vAdd_any _ _ _ _ _ _
          generalize adW (D2 y2) U = nw at *
          generalize D2 y2 = od at *
          replace hnx := Lib.hid hnx
          have z0 : (0 : Int) ≤ (y2 : Int) := by omega
          go_upto_region 9 with (fail)
          refine wp_region_lit ?_
          refine wpList_val rfl (.int .i64 (y2 : Int)) wq (by kernel_rfl) ?_
          simp only [Act.put, List.setIfInBounds_toArray, List.set_cons_succ, List.set_cons_zero]
          go_upto_region 10 with (fail)
          refine wp_region_tail 9 ?_ (by kernel_rfl) (by kernel_rfl) (by kernel_rfl) (fun x => ?_) (fun x => ?_)
          rotate_left
          · simp only [List.take_succ_cons, List.take_zero]
            repeat (go_big_quiet_step (((first | with_reducible exact kA.quiet _ | with_reducible exact kA.quiet2 _ _))))
            refine wpQuiet_nil ?_
            exact rfl
          simp only [List.drop_succ_cons, List.drop_zero]
          try simp only [Act.put, List.setIfInBounds_toArray, List.set_cons_succ, List.set_cons_zero]
          have hC7 := hCq.grow x
          have hU7 := hUq.grow x
          have hG7 := hGq.grow x
          have hB7 := bel_grow hBq x
          clear hCq hUq hGq hBq u0 u1 u2 ul g0 g1 g2 gl f0 f1 f2 kA
          generalize grow wq x = W7 at *
          obtain ⟨⟨g0, g1, g2⟩, gl, f0, f1, f2⟩ := row3P hG7 hy
          go_wp2
          go_roundw
          case rel =>
            have hs := ((hG7.set (y2 * 3) (.int .i64 nw.x)).set (y2 * 3 + 1) (.int .i64 nw.y)).set (y2 * 3 + 2) (.int .i64 nw.z)
            have hnx2 := hnx.out
            unfold set3 at hnx2
            rw [hnx2] at hs
            exact ⟨bel_set (bel_set (bel_set hB7 (by simp) _) (by simp) _) (by simp) _, ((hC7.far _ _ (by omega)).far _ _ (by omega)).far _ _ (by omega), ((hU7.far _ _ (by omega)).far _ _ (by omega)).far _ _ (by omega), .inr (.inr (.inr (.inl ⟨rfl, hs⟩)))⟩
          case measure => simp [intOf]
        · have hy : y3 < N.vs.length := by omega
          have hnx := pC_set D3 hy (adW (D3 y3) U)
          have hst : rowCs 3 N.vs.length (pC fun u => if u = y3 then adW (D3 y3) U else D3 u) = rowCs 3 N.vs.length (pC D4) := by rw [hD4.out]; rfl
          rw [hst] at hnx
          clear hst
          obtain ⟨⟨g0, g1, g2⟩, gl, f0, f1, f2⟩ := row3P hGq hy
          simp only [pC, if_true, if_false, Nat.one_ne_zero, show ¬ (2 : Nat) = 0 by omega, show ¬ (2 : Nat) = 1 by omega] at g0 g1 g2
          have u0 := hUq.cell 0
          have u1 := hUq.cell 1
          have u2 := hUq.cell 2
          have ul := hUq.lt
          have kA : Gives Try.prog 32 #[.agg #[.int .i64 (D3 y3).x, .int .i64 (D3 y3).y, .int .i64 (D3 y3).z], .agg #[.int .i64 U.x, .int .i64 U.y, .int .i64 U.z]] (.agg #[.int .i64 (adW (D3 y3) U).x, .int .i64 (adW (D3 y3) U).y, .int .i64 (adW (D3 y3) U).z]) := vAdd_any _ _ _ _ _ _
          generalize adW (D3 y3) U = nw at *
          generalize D3 y3 = od at *
          replace hnx := Lib.hid hnx
          have z0 : (0 : Int) ≤ (y3 : Int) := by omega
          go_upto_region 9 with (fail)
          refine wp_region_lit ?_
          refine wpList_val rfl (.int .i64 (y3 : Int)) wq (by kernel_rfl) ?_
          simp only [Act.put, List.setIfInBounds_toArray, List.set_cons_succ, List.set_cons_zero]
          go_upto_region 10 with (fail)
          refine wp_region_tail 9 ?_ (by kernel_rfl) (by kernel_rfl) (by kernel_rfl) (fun x => ?_) (fun x => ?_)
          rotate_left
          · simp only [List.take_succ_cons, List.take_zero]
            repeat (go_big_quiet_step (((first | with_reducible exact kA.quiet _ | with_reducible exact kA.quiet2 _ _))))
            refine wpQuiet_nil ?_
            exact rfl
          simp only [List.drop_succ_cons, List.drop_zero]
          try simp only [Act.put, List.setIfInBounds_toArray, List.set_cons_succ, List.set_cons_zero]
          have hC7 := hCq.grow x
          have hU7 := hUq.grow x
          have hG7 := hGq.grow x
          have hB7 := bel_grow hBq x
          clear hCq hUq hGq hBq u0 u1 u2 ul g0 g1 g2 gl f0 f1 f2 kA
          generalize grow wq x = W7 at *
          obtain ⟨⟨g0, g1, g2⟩, gl, f0, f1, f2⟩ := row3P hG7 hy
          go_wp2
          go_roundw
          case rel =>
            have hs := ((hG7.set (y3 * 3) (.int .i64 nw.x)).set (y3 * 3 + 1) (.int .i64 nw.y)).set (y3 * 3 + 2) (.int .i64 nw.z)
            have hnx2 := hnx.out
            unfold set3 at hnx2
            rw [hnx2] at hs
            exact ⟨bel_set (bel_set (bel_set hB7 (by simp) _) (by simp) _) (by simp) _, ((hC7.far _ _ (by omega)).far _ _ (by omega)).far _ _ (by omega), ((hU7.far _ _ (by omega)).far _ _ (by omega)).far _ _ (by omega), .inr (.inr (.inr (.inr (⟨rfl, hs⟩))))⟩
          case measure => simp [intOf]
        · rw [hF5.out] at hGq
          replace hGq := Lib.hid hGq
          replace hCq := Lib.hid hCq
          replace hBq := Lib.hid hBq
          go_wp2
          go_roundw
          case rel => exact ⟨k + 1, by go_num, by omega, hBq.out, hCq.out, hGq.out⟩
          case measure => simp [intOf]; omega
    · obtain rfl : k = N.fs.length := by omega
      have hUe : ∀ v : Nat, UF N.fs.length v = N.ups N.fs (v : Int) := fun v => by rw [hUF.out]; simp
      have hHe : ∀ v : Nat, HF v = cutP (UF N.fs.length v) := fun v => by rw [hHF.out, hUe]; rfl
      have hIe : ∀ v : Nat, I3 (UF N.fs.length v) := fun v => by rw [hUe]; exact foldP_I3z _
      generalize UF N.fs.length = u0 at *
      replace hHe := Lib.hid hHe
      replace hIe := Lib.hid hIe
      clear hUe
      go_wp2
      go_loopw [45] (fun iv wq => ∃ j : Nat, iv = .int .i64 (j : Int) ∧ j ≤ N.vs.length ∧ Below W.heap.size W wq ∧ Blk wq (W.heap.size + 1) 30 (rowCs 3 N.vs.length (pC fun v => if v < j then HF v else u0 v))) (fun iv _ => N.vs.length - (intOf iv).toNat)
      case atStart => exact ⟨0, rfl, by omega, hBr, by simpa using hGr⟩
      case round =>
        obtain ⟨j, rfl, hj, hBq, hGq⟩ := hrel
        clear hBr hGr hCr
        rename World => wq
        by_cases hjl : j < N.vs.length
        · have hnx := pC_set (fun v => if v < j then HF v else u0 v) hjl (HF j)
          have hst : rowCs 3 N.vs.length (pC fun u => if u = j then HF j else if u < j then HF u else u0 u) = rowCs 3 N.vs.length (pC fun v => if v < j + 1 then HF v else u0 v) := pC_ext fun v hv => by
            by_cases e : v = j
            · subst e; rw [if_pos rfl, if_pos (by omega)]
            · rw [if_neg e]
              by_cases e2 : v < j
              · rw [if_pos e2, if_pos (by omega)]
              · rw [if_neg e2, if_neg (by omega)]
          rw [hst] at hnx
          clear hst
          obtain ⟨⟨g0, g1, g2⟩, gl, f0, f1, f2⟩ := row3P hGq hjl
          simp only [pC, Nat.lt_irrefl, if_true, if_false, Nat.one_ne_zero, show ¬ (2 : Nat) = 0 by omega, show ¬ (2 : Nat) = 1 by omega] at g0 g1 g2
          have hI := hIe.out j
          have kC : Gives Try.prog 33 #[.agg #[.int .i64 (u0 j).x, .int .i64 (u0 j).y, .int .i64 (u0 j).z], .int .i64 1023] (.agg #[.int .i64 (HF j).x, .int .i64 (HF j).y, .int .i64 (HF j).z]) := by
            rw [hHe.out j]
            exact vCut_yes _ _ _ 1023 (by omega) (by omega) hI.1.1 hI.1.2 hI.2.1.1 hI.2.1.2 hI.2.2.1 hI.2.2.2
          clear hI
          generalize HF j = nw at *
          generalize u0 j = od at *
          replace hnx := Lib.hid hnx
          have z0 : (0 : Int) ≤ (j : Int) := by omega
          have z1 : (j : Int) < (N.vs.length : Int) := by omega
          go_wp2_with (first | (go_at_call 33; (with_reducible refine (kC.at_ _).mono ?_); rintro e W7 ⟨rfl, xg, hW7⟩; have hG7 := hW7 ▸ hGq.grow xg; have hB7 : Below W.heap.size W W7 := hW7 ▸ bel_grow hBq xg; clear hW7 hGq hBq g0 g1 g2 gl f0 f1 f2; obtain ⟨⟨g0, g1, g2⟩, gl, f0, f1, f2⟩ := row3P hG7 hjl) | fail)
          go_roundw
          case rel =>
            have hs := ((hG7.set (j * 3) (.int .i64 nw.x)).set (j * 3 + 1) (.int .i64 nw.y)).set (j * 3 + 2) (.int .i64 nw.z)
            have hnx2 := hnx.out
            unfold set3 at hnx2
            rw [hnx2] at hs
            exact ⟨j + 1, by go_num, by omega, bel_set (bel_set (bel_set hB7 (by simp) _) (by simp) _) (by simp) _, hs⟩
          case measure => simp [intOf]; omega
        · obtain rfl : j = N.vs.length := by omega
          have hG9 : Blk wq (W.heap.size + 1) 30 (rowCs 3 N.vs.length (pC HF)) := by
            rw [pC_ext (f := HF) (g := fun i => if i < N.vs.length then HF i else u0 i) (fun u hu => (if_pos hu).symm)]
            exact hGq
          clear hGq
          go_wp2
          go_ret
          exact ⟨W.heap.size + 1, rfl, by omega, hG9, hBq⟩
end Go.Proofs.Ytpdnaceggpdleab
