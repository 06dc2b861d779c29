/- Package patch: the cells of a patch, and of a row of patches. Package patch: Build. The laws of patch: alive. Imports for walks with cuts. Package patch, pure: no control point is outside the cage's box; normals are cut. Package patch: the finer cage keeps to what Build asks. No program is imported. -/
import Derived.Deep.DeepCutAuto
import Derived.Test.YtpdnaceggpdleabC12
import Derived.Test.YtpdnaceggpdleabC13
import Derived.Test.YtpdnaceggpdleabC14
import Derived.Test.YtpdnaceggpdleabC17
namespace Go.Proofs.Ytpdnaceggpdleab
open Go.RowKit
set_option linter.unusedVariables false
set_option linter.unusedSimpArgs false
set_option linter.unnecessarySimpa false
set_option maxRecDepth 100000
/-- A patch. -/
structure PtD where
  pt : Nat → P3
  co : List Int
  nm : Nat → P3
  sk : Int
def PtD.c (p : PtD) (j : Nat) : Value := if j < 48 then pC p.pt (j / 3) (j % 3) else if j < 52 then .int .i64 (p.co.getD (j - 48) 0) else if j < 64 then pC p.nm ((j - 52) / 3) ((j - 52) % 3) else .int .i64 p.sk
def PtD.row (p : PtD) : Array Value := svC 65 p.c
def Pt0 : PtD := ⟨fun _ => Z3, [0, 0, 0, 0], fun _ => Z3, 0⟩
theorem svC_ext {n : Nat} {f g : Nat → Value} (h : ∀ v, v < n → f v = g v) : svC n f = svC n g := by
  unfold svC
  congr 1
  exact List.map_congr_left fun v hv => h v (List.mem_range.1 hv)
theorem svC_size (n : Nat) (f : Nat → Value) : (svC n f).size = n := by simp [svC]
theorem PtD.row_size (p : PtD) : p.row.size = 65 := svC_size _ _
theorem PtD.one (p : PtD) (j : Nat) : (p.c j).oneCell' = true := by unfold PtD.c; split; rfl; split; rfl; split <;> rfl
theorem PtD.row_one (p : PtD) : p.row.all (·.oneCell') = true := by
  unfold PtD.row svC
  simp only [List.all_toArray, List.all_map, List.all_eq_true]
  intro j _
  exact p.one j
theorem built_Pt (f : Nat → P3) (x0 x1 x2 x3 sk : Int) : Try.prog.built 43 [(0, .agg (rowCs 3 16 (pC f))), (1, .agg #[.int .i64 x0, .int .i64 x1, .int .i64 x2, .int .i64 x3]), (3, .int .i64 sk)] = some (PtD.row ⟨f, [x0, x1, x2, x3], fun _ => Z3, sk⟩) := by kernel_rfl
theorem alloc_Pt (a : Act) (o : Oper) (ho : o.op = .alloc 43) (w : World) (n : Nat) (hn : n = w.heap.size) :
    (execOp a.eval o).run Try.prog w = .ok (.value (.pointer (some ⟨n, 0, none⟩))) (w.alloc (.cells Pt0.row 43)) := by
  subst hn
  unfold execOp
  rw [ho]
  kernel_rfl
theorem infoPt : (Try.prog.info? 43).map (fun i => (i.zero, i.size, i.bytes)) = some (some (.agg Pt0.row), 65, 520) := by kernel_rfl
theorem infoPt1 : (Try.prog.info? 43).map (·.size) = some 65 := by kernel_rfl
theorem load_Pt {ops : Array Oper} {rest : List Oper} {op : Oper} {a : Act} {w : World} {Q : Exit → Act → World → Prop} (hgd : op.guard = none) (x : Operand) (ho : op.op = .load 43 x) (b : Nat) (hx : a.eval x = .pointer (some ⟨b, 0, none⟩)) (p : PtD) (h : Blk w b 43 p.row)
    (k : wpList Try.prog ops Q rest (a.put op.dst (.agg p.row)) w) : wpList Try.prog ops Q (op :: rest) a w := by
  refine wpList_load_mid hgd 43 x ho b 0 hx p.row.toList _ (rng_blkN h) Try.underlying43 rfl (by rw [Array.length_toList, p.row_size]; exact infoPt1) ?_
  rw [Array.toArray_toList]
  exact k
theorem store_Pt {ops : Array Oper} {rest : List Oper} {o : Oper} {a : Act} {w : World} {Q : Exit → Act → World → Prop} (hgd : o.guard = none) (x y : Operand) (ho : o.op = .store 43 x y) (g : Nat) (p e : PtD) (hx : a.eval x = .pointer (some ⟨g, 0, none⟩)) (hy : a.eval y = .agg p.row) (h : Blk w g 43 e.row)
    (k : wpList Try.prog ops Q rest (a.put o.dst undef) (w.setRow g p.row)) : wpList Try.prog ops Q (o :: rest) a w :=
  wpList_store_row hgd 43 x y ho g _ hx hy 43 _ h (by rw [p.row_size]; exact infoPt1) (by rw [p.row_size, e.row_size]) p.row_one k
/-- A control point, a normal set. -/
def PtD.putP (p : PtD) (i : Nat) (u : P3) : PtD := ⟨fun j => if j = i then u else p.pt j, p.co, p.nm, p.sk⟩
def PtD.putN (p : PtD) (i : Nat) (u : P3) : PtD := ⟨p.pt, p.co, fun j => if j = i then u else p.nm j, p.sk⟩
theorem PtD.setP (p : PtD) {i : Nat} (hi : i < 16) (u : P3) : ((p.row.setIfInBounds (i * 3) (.int .i64 u.x)).setIfInBounds (i * 3 + 1) (.int .i64 u.y)).setIfInBounds (i * 3 + 2) (.int .i64 u.z) = (p.putP i u).row := by
  unfold PtD.row
  rw [svC_set, svC_set, svC_set]
  refine svC_ext fun v hv => ?_
  unfold PtD.c PtD.putP pC
  by_cases h : v < 48
  · simp only [h, if_true]
    by_cases e : v / 3 = i
    · rcases (by omega : v = i * 3 ∨ v = i * 3 + 1 ∨ v = i * 3 + 2) with rfl | rfl | rfl
      · rw [if_neg (by omega), if_neg (by omega), if_pos rfl, if_pos (by omega : i * 3 / 3 = i), if_pos (by omega)]
      · rw [if_neg (by omega), if_pos rfl, if_pos (by omega : (i * 3 + 1) / 3 = i), if_neg (by omega), if_pos (by omega)]
      · rw [if_pos rfl, if_pos (by omega : (i * 3 + 2) / 3 = i), if_neg (by omega), if_neg (by omega)]
    · rw [if_neg (by omega), if_neg (by omega), if_neg (by omega), if_neg e]
  · rw [if_neg (by omega), if_neg (by omega), if_neg (by omega)]
    simp only [h, if_false]
theorem PtD.setN (p : PtD) {i : Nat} (hi : i < 4) (u : P3) : ((p.row.setIfInBounds (52 + i * 3) (.int .i64 u.x)).setIfInBounds (52 + i * 3 + 1) (.int .i64 u.y)).setIfInBounds (52 + i * 3 + 2) (.int .i64 u.z) = (p.putN i u).row := by
  unfold PtD.row
  rw [svC_set, svC_set, svC_set]
  refine svC_ext fun v hv => ?_
  unfold PtD.c PtD.putN pC
  by_cases h : v < 52
  · rw [if_neg (by omega), if_neg (by omega), if_neg (by omega)]
    simp only [h, if_true]
  · by_cases h2 : v < 64
    · simp only [show ¬ v < 48 by omega, h, h2, if_true, if_false]
      by_cases e : (v - 52) / 3 = i
      · rcases (by omega : v = 52 + i * 3 ∨ v = 52 + i * 3 + 1 ∨ v = 52 + i * 3 + 2) with rfl | rfl | rfl
        · rw [if_neg (by omega), if_neg (by omega), if_pos rfl, if_pos (by omega : (52 + i * 3 - 52) / 3 = i), if_pos (by omega)]
        · rw [if_neg (by omega), if_pos rfl, if_pos (by omega : (52 + i * 3 + 1 - 52) / 3 = i), if_neg (by omega), if_pos (by omega)]
        · rw [if_pos rfl, if_pos (by omega : (52 + i * 3 + 2 - 52) / 3 = i), if_neg (by omega), if_neg (by omega)]
      · rw [if_neg (by omega), if_neg (by omega), if_neg (by omega), if_neg e]
    · rw [if_neg (by omega), if_neg (by omega), if_neg (by omega)]
      simp only [show ¬ v < 48 by omega, h, h2, if_false]
theorem PtD.at_ (p : PtD) {j : Nat} (h : j < 65) : p.row[j]? = some (p.c j) := svC_at _ h
/-- A row of patches. -/
def patC (n : Nat) (q : Nat → PtD) : Array Value := rowCs 65 n fun v j => (q v).c j
theorem patC_size (n : Nat) (q : Nat → PtD) : (patC n q).size = n * 65 := rowCs_size _ _ _
theorem patC_ext {n : Nat} {f g : Nat → PtD} (h : ∀ v, v < n → f v = g v) : patC n f = patC n g := rowCs_ext fun a b ha hb => by rw [h a ha]
theorem patC_made (n : Nat) : madeCells Pt0.row (n * 65) = patC n fun _ => Pt0 := by
  rw [rowCs_made Pt0.row_size (by omega)]
  refine rowCs_ext fun a b ha hb => ?_
  rw [Array.getD_eq_getD_getElem?, Pt0.at_ hb]; try rfl
theorem there_rowC {W : World} {g n k : Nat} {t : TypeId} {h : Nat → Nat → Value} (hB : Blk W g t (rowCs k n h)) {v : Nat} (hv : v < n) : W.there g (v * k) k := fun j hj => by
  refine ⟨by rw [hB.cell, rowCs_at h hv hj]; rfl, hB.frozen _⟩
theorem Blk.setCells {t : TypeId} {g : Nat} : ∀ (vs : List Value) (W : World) (cs : Array Value) (o : Nat), Blk W g t cs → ∃ cs', Blk (W.setCells g o vs) g t cs' ∧ cs'.size = cs.size ∧ ∀ i, i < cs.size → cs'[i]? = if o ≤ i ∧ i < o + vs.length then vs[i - o]? else cs[i]?
  | [], W, cs, o, h => ⟨cs, h, rfl, fun i hi => by rw [if_neg (by simp)]⟩
  | v :: r, W, cs, o, h => by
    obtain ⟨cs', h1, h2, h3⟩ := Blk.setCells r _ _ (o + 1) (h.set o v)
    refine ⟨cs', h1, by rw [h2]; simp, fun i hi => ?_⟩
    rw [h3 i (by simpa using hi)]
    by_cases e : i = o
    · subst e
      rw [if_neg (by omega), if_pos (by simp)]
      simp [hi]
    · by_cases e2 : o + 1 ≤ i ∧ i < o + 1 + r.length
      · rw [if_pos e2, if_pos (by simp; omega), show i - o = (i - (o + 1)) + 1 by omega, List.getElem?_cons_succ]
      · rw [if_neg e2, if_neg (by simp; omega)]
        simp [Array.getElem?_setIfInBounds, Ne.symm e]
theorem Blk.setPt {W : World} {t : TypeId} {g n : Nat} {q : Nat → PtD} (h : Blk W g t (patC n q)) {v : Nat} (hv : v < n) (p : PtD) : Blk (W.setCells g (v * 65) p.row.toList) g t (patC n fun u => if u = v then p else q u) := by
  obtain ⟨cs', h1, h2, h3⟩ := Blk.setCells p.row.toList _ _ (v * 65) h
  rw [patC_size] at h2 h3
  have : cs' = patC n fun u => if u = v then p else q u := by
    refine Array.ext (by rw [h2, patC_size]) fun i hi hi2 => ?_
    have e := h3 i (by omega)
    rw [Array.length_toList, p.row_size] at e
    have hi3 : i / 65 < n := by rw [h2] at hi; omega
    have hi4 : i % 65 < 65 := by omega
    have g1 : ∀ q' : Nat → PtD, (patC n q')[i]? = some ((q' (i / 65)).c (i % 65)) := fun q' => by
      have := rowCs_at (k := 65) (n := n) (fun v j => (q' v).c j) hi3 hi4
      rw [show i / 65 * 65 + i % 65 = i by omega] at this
      exact this
    refine Option.some.inj ?_
    rw [← Array.getElem?_eq_getElem, ← Array.getElem?_eq_getElem, e, g1, g1]
    by_cases hh : i / 65 = v
    · rw [if_pos (by omega), if_pos hh, show i - v * 65 = i % 65 by omega]
      simp only [Array.getElem?_toList]
      exact p.at_ hi4
    · rw [if_neg (by omega), if_neg hh]
  rw [← this]
  exact h1
theorem bel_setCells {g : Nat} {W : World} (hg : W.heap.size ≤ g) : ∀ (vs : List Value) (W' : World) (o : Nat), Below W.heap.size W W' → Below W.heap.size W (W'.setCells g o vs)
  | [], W', o, h => h
  | v :: r, W', o, h => bel_setCells hg r _ (o + 1) (bel_set h (by simpa using hg) v)
theorem store_PtAt {ops : Array Oper} {rest : List Oper} {o : Oper} {a : Act} {w : World} {Q : Exit → Act → World → Prop} (hgd : o.guard = none) (x y : Operand) (ho : o.op = .store 43 x y) (g n v : Nat) (hv : v < n) (q : Nat → PtD) (p : PtD) (hx : a.eval x = .pointer (some ⟨g, v * 65, none⟩)) (hy : a.eval y = .agg p.row) (t : TypeId) (h : Blk w g t (patC n q))
    (k : wpList Try.prog ops Q rest (a.put o.dst undef) (w.setCells g (v * 65) p.row.toList)) : wpList Try.prog ops Q (o :: rest) a w :=
  wpList_store_mid hgd 43 x y ho g (v * 65) p.row hx hy (by rw [p.row_size]; exact there_rowC h hv) (by rw [p.row_size]; exact infoPt1) p.row_one k
/-- A face's patch. -/
def NetD.patch (N : NetD) (sk : Int) (f : Nat) : PtD := ((((((((⟨N.side f, N.fs.getD f [], fun _ => Z3, sk⟩ : PtD).putP 0 (N.corner ((N.fs.getD f []).getD 0 0))).putN 0 (N.normal ((N.fs.getD f []).getD 0 0))).putP 3 (N.corner ((N.fs.getD f []).getD 1 0))).putN 1 (N.normal ((N.fs.getD f []).getD 1 0))).putP 15 (N.corner ((N.fs.getD f []).getD 2 0))).putN 2 (N.normal ((N.fs.getD f []).getD 2 0))).putP 12 (N.corner ((N.fs.getD f []).getD 3 0))).putN 3 (N.normal ((N.fs.getD f []).getD 3 0))
end Go.Proofs.Ytpdnaceggpdleab
namespace Go.Proofs.Ytpdnaceggpdleab
open Go.RowKit
set_option linter.unusedVariables false
set_option linter.unusedSimpArgs false
set_option linter.unnecessarySimpa false
set_option maxRecDepth 100000
def PW3 (base n : Nat) (f : Nat → P3) : World → Value → Prop := fun w v => ∃ g, v = .slice (some ⟨g, 0, none⟩) n n ∧ base ≤ g ∧ Blk w g 30 (rowCs 3 n (pC f))
theorem PW3.stays (base n : Nat) (f : Nat → P3) : Stays (PW3 base n f) := fun w w' v hB ⟨g, e, h1, h2⟩ => ⟨g, e, h1, h2.below hB⟩
theorem build_run (a : Act) (o : Oper) {x y z : Operand} (ho : o.op = .build 43 #[(0, x), (1, y), (3, z)]) (w : World) (f : Nat → P3) (x0 x1 x2 x3 sk : Int) (hx : a.eval x = .agg (rowCs 3 16 (pC f))) (hy : a.eval y = .agg #[.int .i64 x0, .int .i64 x1, .int .i64 x2, .int .i64 x3]) (hz : a.eval z = .int .i64 sk) :
    (execOp a.eval o).run Try.prog w = .ok (.value (.agg (PtD.row ⟨f, [x0, x1, x2, x3], fun _ => Z3, sk⟩))) w := by
  have := run_build (P := Try.prog) w 43 #[(0, .agg (rowCs 3 16 (pC f))), (1, .agg #[.int .i64 x0, .int .i64 x1, .int .i64 x2, .int .i64 x3]), (3, .int .i64 sk)] _ (built_Pt f x0 x1 x2 x3 sk)
  unfold execOp
  simp only [ho, List.map_toArray, List.map_cons, List.map_nil, hx, hy, hz, Sem.run_bind, this, Result.andThen_ok, Sem.run_pure]
/-- What Build lays into its row, face by face. -/
def rowQ (N : NetD) (sk : Int) (k : Nat) : Nat → PtD := fun v => if v < k then N.patch sk v else Pt0
theorem rowQ_next (N : NetD) (sk : Int) (k : Nat) : (fun u => if u = k then N.patch sk k else rowQ N sk k u) = rowQ N sk (k + 1) := by
  funext u
  unfold rowQ
  by_cases e : u = k
  · subst e; rw [if_pos rfl, if_pos (by omega)]
  · rw [if_neg e]
    by_cases h : u < k
    · rw [if_pos h, if_pos (by omega)]
    · rw [if_neg h, if_neg (by omega)]
set_option maxHeartbeats 16000000 in
theorem pbuild_any (W : World) (c : Cg) (sk : Int) (A1 A2 A3 : Option Addr) (k1 k2 k3 : Nat) (hc : CgV W c A1 A2 A3) (hS : Surf (c.vs.length : Int) c.fs) (hSh : ∀ t, TopoS (c.vs.length : Int) c.fs t → ∃ sh, sharpP t.es c.ks = some sh) (hIn : ∀ p ∈ c.vs, InP 65536 p) (h4 : ∀ x ∈ c.fs, x.length = 4) :
    Calls Try.prog 7 #[.agg #[.slice A1 c.vs.length k1, .slice A2 c.fs.length k2, .slice A3 c.ks.length k3], .int .i64 sk] W fun e W' => ∃ (N : NetD) (g : Nat), e = .returned (.tuple #[.slice (some ⟨g, 0, none⟩) c.fs.length c.fs.length, .int .i64 0]) ∧ Below W.heap.size W W' ∧ W.heap.size ≤ g ∧ Blk W' g 43 (patC c.fs.length (N.patch sk)) ∧ N.vs = c.vs ∧ N.fs = c.fs ∧ TopoS (c.vs.length : Int) c.fs N.t ∧ sharpP N.t.es c.ks = some N.sh := by
  have cK : ∀ w : World, Below W.heap.size W w → Calls Try.prog 14 #[.agg #[.slice A1 c.vs.length k1, .slice A2 c.fs.length k2, .slice A3 c.ks.length k3]] w fun e W' => ∃ (N : NetD) (B1 B2 B3 A1 Q S E : Option Addr) (d1 d2 d3 k1 k2 k3 k4 : Nat), e = .returned (.tuple #[.agg #[.slice B1 N.t.es.length d1, .slice B2 N.t.fans.length d2, .slice B3 N.t.rs.length d3, .slice A1 N.vs.length k1, .slice Q N.fs.length k2, .slice S N.sh.length k3, .slice E N.vs.length k4], .int .i64 0]) ∧ Below w.heap.size w W' ∧ NetV W' N ⟨B1, B2, B3, A1, Q, S, E, d1, d2, d3, k1, k2, k3, k4⟩ ∧ (N.vs = c.vs ∧ N.fs = c.fs ∧ TopoS (c.vs.length : Int) c.fs N.t ∧ sharpP N.t.es c.ks = some N.sh) := fun w hb =>
    (knit_any w c A1 A2 A3 k1 k2 k3 (hc.below hb) hS hSh hIn h4).mono fun e W' ⟨N, a, h1, h2, h3, h5⟩ => ⟨N, a.B1, a.B2, a.B3, a.A1, a.Q, a.S, a.E, a.d1, a.d2, a.d3, a.k1, a.k2, a.k3, a.k4, h1, h2, h3, h5⟩
  have few := hc.few
  have hW0 : Below W.heap.size W (W.alloc (.cells #[.slice A1 c.vs.length k1, .slice A2 c.fs.length k2, .slice A3 c.ks.length k3] 27)) := bel_alloc (Below.refl _ _) _
  have hC0 : Blk (W.alloc (.cells #[.slice A1 c.vs.length k1, .slice A2 c.fs.length k2, .slice A3 c.ks.length k3] 27)) W.heap.size 27 #[.slice A1 c.vs.length k1, .slice A2 c.fs.length k2, .slice A3 c.ks.length k3] := Blk.new _ _ _ _ rfl
  replace hS := Lib.hid hS
  go_enter Try.func7, Try.ntmps7
  go_upto_region 1 with (fail)
  generalize W.alloc (.cells #[.slice A1 c.vs.length k1, .slice A2 c.fs.length k2, .slice A3 c.ks.length k3] 27) = W0 at *
  have cK0 := cK W0 hW0
  have x0 : W0.cell? ⟨W.heap.size, 0, none⟩ = some (.slice A1 c.vs.length k1) := hC0.cell 0
  have x1 : W0.cell? ⟨W.heap.size, 1, none⟩ = some (.slice A2 c.fs.length k2) := hC0.cell 1
  have x2 : W0.cell? ⟨W.heap.size, 2, none⟩ = some (.slice A3 c.ks.length k3) := hC0.cell 2
  have xl := hC0.lt
  go_upto_region 4 with (first | (go_at_call 14; (with_reducible refine cK0.mono ?_); rintro e W1 ⟨N, B1, B2, B3, Av, Q, S, E, d1, d2, d3, m1, m2, m3, m4, rfl, hb1, hN1, hNN⟩; replace hNN := Lib.hid hNN) | fail)
  obtain ⟨T, hT⟩ : ∃ T, T = W1.heap.size := ⟨_, rfl⟩
  have hN2 : Blk (W1.alloc (.cells #[.slice B1 N.t.es.length d1, .slice B2 N.t.fans.length d2, .slice B3 N.t.rs.length d3, .slice Av N.vs.length m1, .slice Q N.fs.length m2, .slice S N.sh.length m3, .slice E N.vs.length m4] 60)) T 60 #[.slice B1 N.t.es.length d1, .slice B2 N.t.fans.length d2, .slice B3 N.t.rs.length d3, .slice Av N.vs.length m1, .slice Q N.fs.length m2, .slice S N.sh.length m3, .slice E N.vs.length m4] := Blk.new _ _ _ _ hT
  have hB2 := bel_alloc (bel_trans hW0 hb1) (.cells #[.slice B1 N.t.es.length d1, .slice B2 N.t.fans.length d2, .slice B3 N.t.rs.length d3, .slice Av N.vs.length m1, .slice Q N.fs.length m2, .slice S N.sh.length m3, .slice E N.vs.length m4] 60)
  have hV2 := NetV.below hN1 (bel_alloc (Below.refl _ _) (.cells #[.slice B1 N.t.es.length d1, .slice B2 N.t.fans.length d2, .slice B3 N.t.rs.length d3, .slice Av N.vs.length m1, .slice Q N.fs.length m2, .slice S N.sh.length m3, .slice E N.vs.length m4] 60))
  have hTl : W.heap.size ≤ T := by rw [hT]; exact Nat.le_trans hW0.size hb1.size
  simp only [← hT]
  generalize W1.alloc (.cells #[.slice B1 N.t.es.length d1, .slice B2 N.t.fans.length d2, .slice B3 N.t.rs.length d3, .slice Av N.vs.length m1, .slice Q N.fs.length m2, .slice S N.sh.length m3, .slice E N.vs.length m4] 60) = W2 at *
  clear hT x0 x1 x2 xl hC0 cK0 cK hb1 hN1 hW0
  have ok : NetOk N := netOk_of hNN.out.1 hNN.out.2.1 hNN.out.2.2.1 hNN.out.2.2.2 h4 (by omega)
  have hvl : N.vs.length = c.vs.length := by rw [hNN.out.1]
  have hfl : N.fs.length = c.fs.length := by rw [hNN.out.2.1]
  have hVl : c.vs.length < 1000000000 := by omega
  have hFl : c.fs.length < 1000000000 := by omega
  rw [← hvl] at hVl
  rw [← hfl] at hFl
  rw [← hfl]
  replace hvl := Lib.hid hvl
  replace hfl := Lib.hid hfl
  replace ok := Lib.hid ok
  have kC := fun (w : World) (hb : Below W2.heap.size W2 w) => corners_any w N _ (hV2.below hb) ok.out
  have kN := fun (w : World) (hb : Below W2.heap.size W2 w) => normals_any w N _ (hV2.below hb) ok.out
  have tl := hN2.lt
  refine wp_region_monoT 4 (RL [PE (.agg #[.slice B1 N.t.es.length d1, .slice B2 N.t.fans.length d2, .slice B3 N.t.rs.length d3, .slice Av N.vs.length m1, .slice Q N.fs.length m2, .slice S N.sh.length m3, .slice E N.vs.length m4]), PW3 W2.heap.size N.vs.length (fun v : Nat => N.corner (v : Int)), PE (.agg #[.slice B1 N.t.es.length d1, .slice B2 N.t.fans.length d2, .slice B3 N.t.rs.length d3, .slice Av N.vs.length m1, .slice Q N.fs.length m2, .slice S N.sh.length m3, .slice E N.vs.length m4]), PW3 W2.heap.size N.vs.length (fun v : Nat => N.normal (v : Int))]) (by kernel_rfl) _ rfl (by kernel_rfl) (by kernel_rfl) (by kernel_rfl) (by kernel_rfl) (by kernel_rfl) (RL.stays ?_) ?_ ?_
  · intro p hp
    simp only [List.mem_cons, List.not_mem_nil, or_false] at hp
    rcases hp with rfl | rfl | rfl | rfl <;> first | exact PE.stays _ | exact PV.stays _ _ _ | exact PW3.stays _ _ _
  · simp only [List.take_succ_cons, List.take_zero]
    refine ⟨?_, ?_, ?_, ?_, ?_⟩
    · refine mono_val rfl (fun a w hB hk hp => ?_)
      have es6 := (hk 6 (keep_of (by kernel_rfl))).trans (show _ = some (.pointer (some ⟨T, 0, none⟩)) from rfl)
      exact ⟨.agg #[.slice B1 N.t.es.length d1, .slice B2 N.t.fans.length d2, .slice B3 N.t.rs.length d3, .slice Av N.vs.length m1, .slice Q N.fs.length m2, .slice S N.sh.length m3, .slice E N.vs.length m4], w, ldmS_run _ _ _ 60 _ rfl (T) 0 (eval_tmp es6) [.slice B1 N.t.es.length d1, .slice B2 N.t.fans.length d2, .slice B3 N.t.rs.length d3, .slice Av N.vs.length m1, .slice Q N.fs.length m2, .slice S N.sh.length m3, .slice E N.vs.length m4] _ (rng_all ((hN2).below hB)) Try.underlying60 rfl (by kernel_rfl), Below.refl _ _, fun _ _ => rfl⟩
    · refine mono_call rfl (fun a w hB hk hp => ?_)
      obtain ⟨x0, ex0, rx0⟩ := hp ⟨0, .data⟩ (by simp) rfl _ _ rfl rfl
      obtain rfl : x0 = _ := rx0
      exact ⟨15, #[.agg #[.slice B1 N.t.es.length d1, .slice B2 N.t.fans.length d2, .slice B3 N.t.rs.length d3, .slice Av N.vs.length m1, .slice Q N.fs.length m2, .slice S N.sh.length m3, .slice E N.vs.length m4]], by simp [execOp, go_sem, ex0], (kC w hB).mono fun e w' ⟨g, h1, h2, h3, h4⟩ => ⟨_, h1, h4, fun _ _ => ⟨g, rfl, Nat.le_trans hB.size h2, h3⟩⟩⟩
    · refine mono_val rfl (fun a w hB hk hp => ?_)
      have es6 := (hk 6 (keep_of (by kernel_rfl))).trans (show _ = some (.pointer (some ⟨T, 0, none⟩)) from rfl)
      exact ⟨.agg #[.slice B1 N.t.es.length d1, .slice B2 N.t.fans.length d2, .slice B3 N.t.rs.length d3, .slice Av N.vs.length m1, .slice Q N.fs.length m2, .slice S N.sh.length m3, .slice E N.vs.length m4], w, ldmS_run _ _ _ 60 _ rfl (T) 0 (eval_tmp es6) [.slice B1 N.t.es.length d1, .slice B2 N.t.fans.length d2, .slice B3 N.t.rs.length d3, .slice Av N.vs.length m1, .slice Q N.fs.length m2, .slice S N.sh.length m3, .slice E N.vs.length m4] _ (rng_all ((hN2).below hB)) Try.underlying60 rfl (by kernel_rfl), Below.refl _ _, fun _ _ => rfl⟩
    · refine mono_call rfl (fun a w hB hk hp => ?_)
      obtain ⟨x2, ex2, rx2⟩ := hp ⟨2, .data⟩ (by simp) rfl _ _ rfl rfl
      obtain rfl : x2 = _ := rx2
      exact ⟨16, #[.agg #[.slice B1 N.t.es.length d1, .slice B2 N.t.fans.length d2, .slice B3 N.t.rs.length d3, .slice Av N.vs.length m1, .slice Q N.fs.length m2, .slice S N.sh.length m3, .slice E N.vs.length m4]], by simp [execOp, go_sem, ex2], (kN w hB).mono fun e w' ⟨g, h1, h2, h3, h4⟩ => ⟨_, h1, h4, fun _ _ => ⟨g, rfl, Nat.le_trans hB.size h2, h3⟩⟩⟩
    · trivial
  · intro a w3 hB hsz hdf hk hgot
    obtain ⟨v1, ev1, rv1⟩ := hgot 1 _ 25 rfl rfl
    obtain ⟨gP, rfl, hgP, hbP⟩ : PW3 W2.heap.size N.vs.length (fun v : Nat => N.corner (v : Int)) w3 v1 := rv1
    obtain ⟨v3, ev3, rv3⟩ := hgot 3 _ 27 rfl rfl
    obtain ⟨gM, rfl, hgM, hbM⟩ : PW3 W2.heap.size N.vs.length (fun v : Nat => N.normal (v : Int)) w3 v3 := rv3
    obtain ⟨f, hf, rfl⟩ := frame_eq hsz hdf hk [24, 25, 26, 27] (by rfl)
    have f25 := hf 25 _ ev1
    have f27 := hf 27 _ ev3
    clear hsz hdf hk hgot hf ev1 ev3
    simp only [List.drop_succ_cons, List.drop_zero, setAll, List.setIfInBounds_toArray, List.set_cons_succ, List.set_cons_zero, f25, f27]
    clear f25 f27
    generalize f 24 = uu24; generalize f 26 = uu26
    have hN3 := hN2.below hB
    have hV3 := hV2.below hB
    have hB3 := bel_trans hB2 hB
    have hle3 := hB.size
    clear kC kN
    obtain ⟨i0, hi0, hz0, hz1, hz2⟩ := info_parts infoPt
    have x4 : w3.cell? ⟨T, 4, none⟩ = some (.slice Q N.fs.length m2) := hN3.cell 4
    have tl3 := hN3.lt
    go_upto_region 6 with (first | ((refine wpList_make_full _ rfl _ _ 32 rfl w3.heap.size 43 i0 _ 65 Try.underlying32 hi0 hz0 hz1 .i64 .i64 (N.fs.length : Int) (N.fs.length : Int) N.fs.length rfl rfl rfl rfl (by rw [hz2]; omega) (by unfold maxLen; omega) (Nat.le_refl _) ?_); intro W5 own1 hg1) | fail)
    have hG5 : Blk W5 w3.heap.size 43 (patC N.fs.length (rowQ N sk 0)) := by
      have := made_blk own1
      rw [show (Value.agg Pt0.row).cells = Pt0.row from rfl, patC_made] at this
      rw [show rowQ N sk 0 = fun _ => Pt0 by funext v; unfold rowQ; rw [if_neg (by omega)]]
      exact this
    have hb5 : Below w3.heap.size w3 W5 := bel_own (Below.refl _ _) hg1 (by intro k h; cases h)
    clear own1 hg1 x4 tl3
    have x4 : W5.cell? ⟨T, 4, none⟩ = some (.slice Q N.fs.length m2) := (hN3.below hb5).cell 4
    have tl3 := (hN3.below hb5).lt
    obtain ⟨gL, hgL⟩ : ∃ g, g = w3.heap.size := ⟨_, rfl⟩
    rw [← hgL] at hG5
    simp only [← hgL]
    replace hgL := Lib.hid hgL
    go_wp2
    clear x4 tl3
    go_loopw [35] (fun iv wr => ∃ k : Nat, iv = .int .i64 (k : Int) ∧ k ≤ N.fs.length ∧ Below w3.heap.size w3 wr ∧ Blk wr gL 43 (patC N.fs.length (rowQ N sk k))) (fun iv _ => N.fs.length - (intOf iv).toNat)
    case atStart => exact ⟨0, rfl, by omega, hb5, hG5⟩
    case round =>
      obtain ⟨k, rfl, hk, hBr, hGr⟩ := hrel
      clear hb5 hG5
      rename World => wr
      by_cases hlt : k < N.fs.length
      · have hNr := hN3.below hBr
        have hVr := hV3.below hBr
        have kS := fun (w : World) (hb : Below wr.heap.size wr w) => sides_any w N _ (hVr.below hb) ok.out k hlt
        have hPr := hbP.below hBr
        have hMr := hbM.below hBr
        have hface : N.fs.getD k [] = N.fs[k] := by rw [List.getD_eq_getElem?_getD, List.getElem?_eq_getElem hlt]; rfl
        have hpt : N.patch sk k = ((((((((⟨N.side k, N.fs[k], fun _ => Z3, sk⟩ : PtD).putP 0 (N.corner (N.fs[k].getD 0 0))).putN 0 (N.normal (N.fs[k].getD 0 0))).putP 3 (N.corner (N.fs[k].getD 1 0))).putN 1 (N.normal (N.fs[k].getD 1 0))).putP 15 (N.corner (N.fs[k].getD 2 0))).putN 2 (N.normal (N.fs[k].getD 2 0))).putP 12 (N.corner (N.fs[k].getD 3 0))).putN 3 (N.normal (N.fs[k].getD 3 0)) := by unfold NetD.patch; rw [hface]
        obtain ⟨bq, oq, rfl, hql, hqc⟩ : ∃ b off, Q = some ⟨b, off, none⟩ ∧ b < wr.heap.size ∧ ∀ j, j < 4 → wr.cell? ⟨b, off + k * 4 + j, none⟩ = some (.int .i64 (N.fs[k].getD j 0)) := by
          obtain ⟨b, off, h1, h2, h3⟩ := hVr.fs (by omega)
          exact ⟨b, off, h1, h2, fun j hj => h3 k hlt j hj⟩
        obtain ⟨h4k, hin⟩ := ok.out.four _ (List.getElem_mem hlt)
        obtain ⟨x0, x1, x2, x3, hx⟩ := four_of h4k
        rw [hx] at hin hqc hpt
        have c0 := hqc 0 (by omega)
        have c1 := hqc 1 (by omega)
        have c2 := hqc 2 (by omega)
        have c3 := hqc 3 (by omega)
        simp only [List.getD_cons_zero, List.getD_cons_succ, Nat.add_zero] at c0 c1 c2 c3 hpt
        clear hqc h4k hx hface
        obtain ⟨⟨h00, h01⟩, ⟨h10, h11⟩, ⟨h20, h21⟩, h30, h31⟩ : (0 ≤ x0 ∧ x0 < N.vs.length) ∧ (0 ≤ x1 ∧ x1 < N.vs.length) ∧ (0 ≤ x2 ∧ x2 < N.vs.length) ∧ 0 ≤ x3 ∧ x3 < N.vs.length := ⟨hin _ (by simp), hin _ (by simp), hin _ (by simp), hin _ (by simp)⟩
        clear hin
        obtain ⟨y0, rfl⟩ := Int.eq_ofNat_of_zero_le h00
        obtain ⟨y1, rfl⟩ := Int.eq_ofNat_of_zero_le h10
        obtain ⟨y2, rfl⟩ := Int.eq_ofNat_of_zero_le h20
        obtain ⟨y3, rfl⟩ := Int.eq_ofNat_of_zero_le h30
        replace hpt := Lib.hid hpt
        have q0 : (0 : Int) ≤ (k : Int) := by omega
        have q1 : (k : Int) < (N.fs.length : Int) := by omega
        go_upto_region 9 with (fail)
        have hFf : Blk (wr.alloc (.cells #[.int .i64 (y0 : Int), .int .i64 (y1 : Int), .int .i64 (y2 : Int), .int .i64 (y3 : Int)] 36)) wr.heap.size 36 #[.int .i64 (y0 : Int), .int .i64 (y1 : Int), .int .i64 (y2 : Int), .int .i64 (y3 : Int)] := Blk.new _ _ _ _ rfl
        have hbf : Below wr.heap.size wr (wr.alloc (.cells #[.int .i64 (y0 : Int), .int .i64 (y1 : Int), .int .i64 (y2 : Int), .int .i64 (y3 : Int)] 36)) := bel_alloc (Below.refl _ _) _
        generalize wr.alloc (.cells #[.int .i64 (y0 : Int), .int .i64 (y1 : Int), .int .i64 (y2 : Int), .int .i64 (y3 : Int)] 36) = wf at *
        obtain ⟨gf, hgf⟩ : ∃ g, g = wr.heap.size := ⟨_, rfl⟩
        rw [← hgf] at hFf
        simp only [← hgf]
        replace hgf := Lib.hid hgf
        have hNf := hNr.below hbf
        have hPf := hPr.below hbf
        have hMf := hMr.below hbf
        have hGf := hGr.below hbf
        have hBf := bel_trans hBr hbf
        replace kS := fun (w : World) (hb : Below wf.heap.size wf w) => kS w (bel_trans hbf hb)
        have tl := hNf.lt
        have fl := hFf.lt
        clear c0 c1 c2 c3 hql hbf hNr hPr hMr hGr hBr hVr
        refine wp_region_monoT 7 (RL [PE (.agg #[.slice B1 N.t.es.length d1, .slice B2 N.t.fans.length d2, .slice B3 N.t.rs.length d3, .slice Av N.vs.length m1, .slice (some ⟨bq, oq, none⟩) N.fs.length m2, .slice S N.sh.length m3, .slice E N.vs.length m4]), PE (.int .i64 (k : Int)), PE (.agg (rowCs 3 16 (pC (N.side k)))), PE (.agg #[.int .i64 (y0 : Int), .int .i64 (y1 : Int), .int .i64 (y2 : Int), .int .i64 (y3 : Int)]), PE (.int .i64 sk), PE (.agg (PtD.row ⟨N.side k, [(y0 : Int), (y1 : Int), (y2 : Int), (y3 : Int)], fun _ => Z3, sk⟩)), PB wf.heap.size 43 Pt0.row]) (by kernel_rfl) _ rfl (by kernel_rfl) (by kernel_rfl) (by kernel_rfl) (by kernel_rfl) (by kernel_rfl) (RL.stays ?_) ?_ ?_
        · intro p hp
          simp only [List.mem_cons, List.not_mem_nil, or_false] at hp
          rcases hp with rfl | rfl | rfl | rfl | rfl | rfl | rfl <;> first | exact PE.stays _ | exact PV.stays _ _ _ | exact PB.stays _ _ _
        · simp only [List.take_succ_cons, List.take_zero]
          refine ⟨?_, ?_, ?_, ?_, ?_, ?_, ?_, ?_⟩
          · refine mono_val rfl (fun a w hB hk hp => ?_)
            have es6 := (hk 6 (keep_of (by kernel_rfl))).trans (show _ = some (.pointer (some ⟨T, 0, none⟩)) from rfl)
            exact ⟨.agg #[.slice B1 N.t.es.length d1, .slice B2 N.t.fans.length d2, .slice B3 N.t.rs.length d3, .slice Av N.vs.length m1, .slice (some ⟨bq, oq, none⟩) N.fs.length m2, .slice S N.sh.length m3, .slice E N.vs.length m4], w, ldmS_run _ _ _ 60 _ rfl (T) 0 (eval_tmp es6) [.slice B1 N.t.es.length d1, .slice B2 N.t.fans.length d2, .slice B3 N.t.rs.length d3, .slice Av N.vs.length m1, .slice (some ⟨bq, oq, none⟩) N.fs.length m2, .slice S N.sh.length m3, .slice E N.vs.length m4] _ (rng_all ((hNf).below hB)) Try.underlying60 rfl (by kernel_rfl), Below.refl _ _, fun _ _ => rfl⟩
          · refine mono_val rfl (fun a w hB hk hp => ?_)
            have es11 := (hk 11 (keep_of (by kernel_rfl))).trans (show _ = some (.int .i64 (k : Int)) from rfl)
            exact ⟨.int .i64 (k : Int), w, by simp [execOp, go_sem, es11], Below.refl _ _, fun _ _ => rfl⟩
          · refine mono_call rfl (fun a w hB hk hp => ?_)
            obtain ⟨x0, ex0, rx0⟩ := hp ⟨0, .data⟩ (by simp) rfl _ _ rfl rfl
            obtain rfl : x0 = _ := rx0
            obtain ⟨x1, ex1, rx1⟩ := hp ⟨1, .data⟩ (by simp) rfl _ _ rfl rfl
            obtain rfl : x1 = _ := rx1
            exact ⟨17, #[.agg #[.slice B1 N.t.es.length d1, .slice B2 N.t.fans.length d2, .slice B3 N.t.rs.length d3, .slice Av N.vs.length m1, .slice (some ⟨bq, oq, none⟩) N.fs.length m2, .slice S N.sh.length m3, .slice E N.vs.length m4], .int .i64 (k : Int)], by simp [execOp, go_sem, ex0, ex1], (kS w hB).mono fun e w' ⟨h1, h2⟩ => ⟨_, h1, h2, fun _ _ => rfl⟩⟩
          · refine mono_val rfl (fun a w hB hk hp => ?_)
            have es12 := (hk 12 (keep_of (by kernel_rfl))).trans (show _ = some (.pointer (some ⟨gf, 0, none⟩)) from rfl)
            exact ⟨.agg #[.int .i64 (y0 : Int), .int .i64 (y1 : Int), .int .i64 (y2 : Int), .int .i64 (y3 : Int)], w, ldmS_run _ _ _ 36 _ rfl (gf) 0 (eval_tmp es12) [.int .i64 (y0 : Int), .int .i64 (y1 : Int), .int .i64 (y2 : Int), .int .i64 (y3 : Int)] _ (rng_all ((hFf).below hB)) Try.underlying36 rfl (by kernel_rfl), Below.refl _ _, fun _ _ => rfl⟩
          · refine mono_val rfl (fun a w hB hk hp => ?_)
            have es1 := (hk 1 (keep_of (by kernel_rfl))).trans (show _ = some (.int .i64 sk) from rfl)
            exact ⟨.int .i64 sk, w, by simp [execOp, go_sem, es1], Below.refl _ _, fun _ _ => rfl⟩
          · refine mono_val rfl (fun a w hB hk hp => ?_)
            obtain ⟨x2, ex2, rx2⟩ := hp ⟨2, .data⟩ (by simp) rfl _ _ rfl rfl
            obtain rfl : x2 = _ := rx2
            obtain ⟨x3, ex3, rx3⟩ := hp ⟨3, .data⟩ (by simp) rfl _ _ rfl rfl
            obtain rfl : x3 = _ := rx3
            obtain ⟨x4, ex4, rx4⟩ := hp ⟨4, .data⟩ (by simp) rfl _ _ rfl rfl
            obtain rfl : x4 = _ := rx4
            exact ⟨.agg (PtD.row ⟨N.side k, [(y0 : Int), (y1 : Int), (y2 : Int), (y3 : Int)], fun _ => Z3, sk⟩), w, build_run _ _ rfl w _ _ _ _ _ _ (eval_tmp ex2) (eval_tmp ex3) (eval_tmp ex4), Below.refl _ _, fun _ _ => rfl⟩
          · refine mono_val rfl (fun a w hB hk hp => ?_)
            exact ⟨.pointer (some ⟨w.heap.size, 0, none⟩), w.alloc (.cells Pt0.row 43), alloc_Pt _ _ rfl w _ rfl, bel_alloc (Below.refl _ _) _, fun _ _ => ⟨w.heap.size, rfl, hB.size, Blk.new _ _ _ _ rfl⟩⟩
          · trivial
        · intro a w4 hB hsz hdf hk hgot
          obtain ⟨v5, ev5, rv5⟩ := hgot 5 _ 45 rfl rfl
          obtain rfl : v5 = _ := rv5
          obtain ⟨v6, ev6, rv6⟩ := hgot 6 _ 13 rfl rfl
          obtain ⟨gp, rfl, hgp, hbp⟩ : PB wf.heap.size 43 Pt0.row w4 v6 := rv6
          obtain ⟨f, hf, rfl⟩ := frame_eq hsz hdf hk [40, 41, 42, 43, 44, 45, 13] (by rfl)
          have f45 := hf 45 _ ev5
          have f13 := hf 13 _ ev6
          clear hsz hdf hk hgot hf ev5 ev6
          simp only [List.drop_succ_cons, List.drop_zero, setAll, List.setIfInBounds_toArray, List.set_cons_succ, List.set_cons_zero, f45, f13]
          clear f45 f13
          generalize f 40 = uu40; generalize f 41 = uu41; generalize f 42 = uu42; generalize f 43 = uu43; generalize f 44 = uu44
          have hGw := hGf.below hB
          obtain ⟨D0, hD0⟩ : ∃ d : PtD, d = ⟨N.side k, [(y0 : Int), (y1 : Int), (y2 : Int), (y3 : Int)], fun _ => Z3, sk⟩ := ⟨_, rfl⟩
          go_upto_region 10 with (first | ((refine store_Pt rfl _ _ rfl gp ⟨N.side k, [(y0 : Int), (y1 : Int), (y2 : Int), (y3 : Int)], fun _ => Z3, sk⟩ Pt0 rfl rfl hbp ?_); simp only [Act.put, List.setIfInBounds_toArray, List.set_cons_succ, List.set_cons_zero]) | fail)
          have hP5 : Blk (w4.setRow gp (PtD.row ⟨N.side k, [(y0 : Int), (y1 : Int), (y2 : Int), (y3 : Int)], fun _ => Z3, sk⟩)) gp 43 (PtD.row ⟨N.side k, [(y0 : Int), (y1 : Int), (y2 : Int), (y3 : Int)], fun _ => Z3, sk⟩) := hbp.setRow _
          have hb5 : Below wf.heap.size wf (w4.setRow gp (PtD.row ⟨N.side k, [(y0 : Int), (y1 : Int), (y2 : Int), (y3 : Int)], fun _ => Z3, sk⟩)) := bel_setRow hB hgp _
          generalize w4.setRow gp (PtD.row ⟨N.side k, [(y0 : Int), (y1 : Int), (y2 : Int), (y3 : Int)], fun _ => Z3, sk⟩) = w5 at *
          have hpt2 := hpt.out
          rw [← hD0] at hP5 hpt2
          obtain ⟨D1, hD1⟩ : ∃ d : PtD, d = (D0.putP 0 (N.corner (y0 : Int))).putN 0 (N.normal (y0 : Int)) := ⟨_, rfl⟩
          obtain ⟨D2, hD2⟩ : ∃ d : PtD, d = (D1.putP 3 (N.corner (y1 : Int))).putN 1 (N.normal (y1 : Int)) := ⟨_, rfl⟩
          obtain ⟨D3, hD3⟩ : ∃ d : PtD, d = (D2.putP 15 (N.corner (y2 : Int))).putN 2 (N.normal (y2 : Int)) := ⟨_, rfl⟩
          obtain ⟨D4, hD4⟩ : ∃ d : PtD, d = (D3.putP 12 (N.corner (y3 : Int))).putN 3 (N.normal (y3 : Int)) := ⟨_, rfl⟩
          rw [← hD1, ← hD2, ← hD3, ← hD4] at hpt2
          replace hpt2 := Lib.hid hpt2
          replace hD0 := Lib.hid hD0
          replace hD1 := Lib.hid hD1
          replace hD2 := Lib.hid hD2
          replace hD3 := Lib.hid hD3
          replace hD4 := Lib.hid hD4
          clear hpt hB hbp kS
          go_wp2
          go_loopw [47] (fun iv wq => Below wf.heap.size wf wq ∧ ((iv = .int .i64 0 ∧ Blk wq gp 43 D0.row) ∨ (iv = .int .i64 1 ∧ Blk wq gp 43 D1.row) ∨ (iv = .int .i64 2 ∧ Blk wq gp 43 D2.row) ∨ (iv = .int .i64 3 ∧ Blk wq gp 43 D3.row) ∨ (iv = .int .i64 4 ∧ Blk wq gp 43 D4.row))) (fun iv _ => 4 - (intOf iv).toNat)
          case atStart => exact ⟨hb5, .inl ⟨rfl, hP5⟩⟩
          case round =>
            obtain ⟨hBq, hi⟩ := hrel
            clear hb5 hP5
            rename World => wq
            rcases hi with ⟨rfl, hDq⟩ | ⟨rfl, hDq⟩ | ⟨rfl, hDq⟩ | ⟨rfl, hDq⟩ | ⟨rfl, hDq⟩
            · have hy : y0 < N.vs.length := by omega
              have hnx := hD1.out
              have u0 := (hFf.below hBq).cell 0
              have ul := (hFf.below hBq).lt
              obtain ⟨⟨g0, g1, g2⟩, gl, _, _, _⟩ := row3P (hPf.below hBq) hy
              simp only [pC, if_true, if_false, Nat.one_ne_zero, show ¬ (2 : Nat) = 0 by omega, show ¬ (2 : Nat) = 1 by omega] at g0 g1 g2
              have e0 : wq.cell? ⟨gp, 0, none⟩ = some (PtD.c D0 0) := by rw [hDq.cell]; exact PtD.at_ _ (by omega)
              have f0 := hDq.frozen 0
              have e1 : wq.cell? ⟨gp, 1, none⟩ = some (PtD.c D0 1) := by rw [hDq.cell]; exact PtD.at_ _ (by omega)
              have f1 := hDq.frozen 1
              have e2 : wq.cell? ⟨gp, 2, none⟩ = some (PtD.c D0 2) := by rw [hDq.cell]; exact PtD.at_ _ (by omega)
              have f2 := hDq.frozen 2
              have el := hDq.lt
              generalize N.corner (y0 : Int) = cv at *
              replace hnx := Lib.hid hnx
              have z0 : (0 : Int) ≤ (y0 : Int) := by omega
              have z1 : (y0 : Int) < (N.vs.length : Int) := by omega
              go_upto_region 12 with (fail)
              refine wp_region_lit ?_
              refine wpList_val rfl (.int .i64 0) wq (by kernel_rfl) ?_
              simp only [Act.put, List.setIfInBounds_toArray, List.set_cons_succ, List.set_cons_zero]
              refine wpList_val rfl (.int .i64 0) wq (by kernel_rfl) ?_
              simp only [Act.put, List.setIfInBounds_toArray, List.set_cons_succ, List.set_cons_zero]
              go_upto_region 14 with (fail)
              have hD8 : Blk (((wq.setCell ⟨gp, 0, none⟩ (.int .i64 cv.x)).setCell ⟨gp, 1, none⟩ (.int .i64 cv.y)).setCell ⟨gp, 2, none⟩ (.int .i64 cv.z)) gp 43 (D0.putP 0 cv).row := by
                rw [← PtD.setP D0 (i := 0) (by omega) cv]
                exact ((hDq.set _ _).set _ _).set _ _
              have hB8 : Below wf.heap.size wf (((wq.setCell ⟨gp, 0, none⟩ (.int .i64 cv.x)).setCell ⟨gp, 1, none⟩ (.int .i64 cv.y)).setCell ⟨gp, 2, none⟩ (.int .i64 cv.z)) := bel_set (bel_set (bel_set hBq (by simpa using hgp) _) (by simpa using hgp) _) (by simpa using hgp) _
              clear hDq hBq u0 ul g0 g1 g2 gl e0 e1 e2 f0 f1 f2 el
              generalize ((wq.setCell ⟨gp, 0, none⟩ (.int .i64 cv.x)).setCell ⟨gp, 1, none⟩ (.int .i64 cv.y)).setCell ⟨gp, 2, none⟩ (.int .i64 cv.z) = W8 at *
              generalize D0.putP 0 cv = DM at *
              have u0 := (hFf.below hB8).cell 0
              have ul := (hFf.below hB8).lt
              obtain ⟨⟨g0, g1, g2⟩, gl, _, _, _⟩ := row3P (hMf.below hB8) hy
              simp only [pC, if_true, if_false, Nat.one_ne_zero, show ¬ (2 : Nat) = 0 by omega, show ¬ (2 : Nat) = 1 by omega] at g0 g1 g2
              have e0 : W8.cell? ⟨gp, 52, none⟩ = some (PtD.c DM 52) := by rw [hD8.cell]; exact PtD.at_ _ (by omega)
              have f0 := hD8.frozen 52
              have e1 : W8.cell? ⟨gp, 53, none⟩ = some (PtD.c DM 53) := by rw [hD8.cell]; exact PtD.at_ _ (by omega)
              have f1 := hD8.frozen 53
              have e2 : W8.cell? ⟨gp, 54, none⟩ = some (PtD.c DM 54) := by rw [hD8.cell]; exact PtD.at_ _ (by omega)
              have f2 := hD8.frozen 54
              have el := hD8.lt
              generalize N.normal (y0 : Int) = nv at *
              go_wp2
              go_roundw
              case rel =>
                have hD9 : Blk (((W8.setCell ⟨gp, 52, none⟩ (.int .i64 nv.x)).setCell ⟨gp, 53, none⟩ (.int .i64 nv.y)).setCell ⟨gp, 54, none⟩ (.int .i64 nv.z)) gp 43 (DM.putN 0 nv).row := by
                  rw [← PtD.setN DM (i := 0) (by omega) nv]
                  exact ((hD8.set _ _).set _ _).set _ _
                have hB9 : Below wf.heap.size wf (((W8.setCell ⟨gp, 52, none⟩ (.int .i64 nv.x)).setCell ⟨gp, 53, none⟩ (.int .i64 nv.y)).setCell ⟨gp, 54, none⟩ (.int .i64 nv.z)) := bel_set (bel_set (bel_set hB8 (by simpa using hgp) _) (by simpa using hgp) _) (by simpa using hgp) _
                rw [← hnx.out] at hD9
                exact ⟨hB9, .inr (.inl ⟨rfl, hD9⟩)⟩
              case measure => simp [intOf]
            · have hy : y1 < N.vs.length := by omega
              have hnx := hD2.out
              have u1 := (hFf.below hBq).cell 1
              have ul := (hFf.below hBq).lt
              obtain ⟨⟨g0, g1, g2⟩, gl, _, _, _⟩ := row3P (hPf.below hBq) hy
              simp only [pC, if_true, if_false, Nat.one_ne_zero, show ¬ (2 : Nat) = 0 by omega, show ¬ (2 : Nat) = 1 by omega] at g0 g1 g2
              have e0 : wq.cell? ⟨gp, 9, none⟩ = some (PtD.c D1 9) := by rw [hDq.cell]; exact PtD.at_ _ (by omega)
              have f0 := hDq.frozen 9
              have e1 : wq.cell? ⟨gp, 10, none⟩ = some (PtD.c D1 10) := by rw [hDq.cell]; exact PtD.at_ _ (by omega)
              have f1 := hDq.frozen 10
              have e2 : wq.cell? ⟨gp, 11, none⟩ = some (PtD.c D1 11) := by rw [hDq.cell]; exact PtD.at_ _ (by omega)
              have f2 := hDq.frozen 11
              have el := hDq.lt
              generalize N.corner (y1 : Int) = cv at *
              replace hnx := Lib.hid hnx
              have z0 : (0 : Int) ≤ (y1 : Int) := by omega
              have z1 : (y1 : Int) < (N.vs.length : Int) := by omega
              go_upto_region 12 with (fail)
              refine wp_region_lit ?_
              refine wpList_val rfl (.int .i64 1) wq (by kernel_rfl) ?_
              simp only [Act.put, List.setIfInBounds_toArray, List.set_cons_succ, List.set_cons_zero]
              refine wpList_val rfl (.int .i64 3) wq (by kernel_rfl) ?_
              simp only [Act.put, List.setIfInBounds_toArray, List.set_cons_succ, List.set_cons_zero]
              go_upto_region 14 with (fail)
              have hD8 : Blk (((wq.setCell ⟨gp, 9, none⟩ (.int .i64 cv.x)).setCell ⟨gp, 10, none⟩ (.int .i64 cv.y)).setCell ⟨gp, 11, none⟩ (.int .i64 cv.z)) gp 43 (D1.putP 3 cv).row := by
                rw [← PtD.setP D1 (i := 3) (by omega) cv]
                exact ((hDq.set _ _).set _ _).set _ _
              have hB8 : Below wf.heap.size wf (((wq.setCell ⟨gp, 9, none⟩ (.int .i64 cv.x)).setCell ⟨gp, 10, none⟩ (.int .i64 cv.y)).setCell ⟨gp, 11, none⟩ (.int .i64 cv.z)) := bel_set (bel_set (bel_set hBq (by simpa using hgp) _) (by simpa using hgp) _) (by simpa using hgp) _
              clear hDq hBq u1 ul g0 g1 g2 gl e0 e1 e2 f0 f1 f2 el
              generalize ((wq.setCell ⟨gp, 9, none⟩ (.int .i64 cv.x)).setCell ⟨gp, 10, none⟩ (.int .i64 cv.y)).setCell ⟨gp, 11, none⟩ (.int .i64 cv.z) = W8 at *
              generalize D1.putP 3 cv = DM at *
              have u1 := (hFf.below hB8).cell 1
              have ul := (hFf.below hB8).lt
              obtain ⟨⟨g0, g1, g2⟩, gl, _, _, _⟩ := row3P (hMf.below hB8) hy
              simp only [pC, if_true, if_false, Nat.one_ne_zero, show ¬ (2 : Nat) = 0 by omega, show ¬ (2 : Nat) = 1 by omega] at g0 g1 g2
              have e0 : W8.cell? ⟨gp, 55, none⟩ = some (PtD.c DM 55) := by rw [hD8.cell]; exact PtD.at_ _ (by omega)
              have f0 := hD8.frozen 55
              have e1 : W8.cell? ⟨gp, 56, none⟩ = some (PtD.c DM 56) := by rw [hD8.cell]; exact PtD.at_ _ (by omega)
              have f1 := hD8.frozen 56
              have e2 : W8.cell? ⟨gp, 57, none⟩ = some (PtD.c DM 57) := by rw [hD8.cell]; exact PtD.at_ _ (by omega)
              have f2 := hD8.frozen 57
              have el := hD8.lt
              generalize N.normal (y1 : Int) = nv at *
              go_wp2
              go_roundw
              case rel =>
                have hD9 : Blk (((W8.setCell ⟨gp, 55, none⟩ (.int .i64 nv.x)).setCell ⟨gp, 56, none⟩ (.int .i64 nv.y)).setCell ⟨gp, 57, none⟩ (.int .i64 nv.z)) gp 43 (DM.putN 1 nv).row := by
                  rw [← PtD.setN DM (i := 1) (by omega) nv]
                  exact ((hD8.set _ _).set _ _).set _ _
                have hB9 : Below wf.heap.size wf (((W8.setCell ⟨gp, 55, none⟩ (.int .i64 nv.x)).setCell ⟨gp, 56, none⟩ (.int .i64 nv.y)).setCell ⟨gp, 57, none⟩ (.int .i64 nv.z)) := bel_set (bel_set (bel_set hB8 (by simpa using hgp) _) (by simpa using hgp) _) (by simpa using hgp) _
                rw [← hnx.out] at hD9
                exact ⟨hB9, .inr (.inr (.inl ⟨rfl, hD9⟩))⟩
              case measure => simp [intOf]
            · have hy : y2 < N.vs.length := by omega
              have hnx := hD3.out
              have u2 := (hFf.below hBq).cell 2
              have ul := (hFf.below hBq).lt
              obtain ⟨⟨g0, g1, g2⟩, gl, _, _, _⟩ := row3P (hPf.below hBq) hy
              simp only [pC, if_true, if_false, Nat.one_ne_zero, show ¬ (2 : Nat) = 0 by omega, show ¬ (2 : Nat) = 1 by omega] at g0 g1 g2
              have e0 : wq.cell? ⟨gp, 45, none⟩ = some (PtD.c D2 45) := by rw [hDq.cell]; exact PtD.at_ _ (by omega)
              have f0 := hDq.frozen 45
              have e1 : wq.cell? ⟨gp, 46, none⟩ = some (PtD.c D2 46) := by rw [hDq.cell]; exact PtD.at_ _ (by omega)
              have f1 := hDq.frozen 46
              have e2 : wq.cell? ⟨gp, 47, none⟩ = some (PtD.c D2 47) := by rw [hDq.cell]; exact PtD.at_ _ (by omega)
              have f2 := hDq.frozen 47
              have el := hDq.lt
              generalize N.corner (y2 : Int) = cv at *
              replace hnx := Lib.hid hnx
              have z0 : (0 : Int) ≤ (y2 : Int) := by omega
              have z1 : (y2 : Int) < (N.vs.length : Int) := by omega
              go_upto_region 12 with (fail)
              refine wp_region_lit ?_
              refine wpList_val rfl (.int .i64 2) wq (by kernel_rfl) ?_
              simp only [Act.put, List.setIfInBounds_toArray, List.set_cons_succ, List.set_cons_zero]
              refine wpList_val rfl (.int .i64 15) wq (by kernel_rfl) ?_
              simp only [Act.put, List.setIfInBounds_toArray, List.set_cons_succ, List.set_cons_zero]
              go_upto_region 14 with (fail)
              have hD8 : Blk (((wq.setCell ⟨gp, 45, none⟩ (.int .i64 cv.x)).setCell ⟨gp, 46, none⟩ (.int .i64 cv.y)).setCell ⟨gp, 47, none⟩ (.int .i64 cv.z)) gp 43 (D2.putP 15 cv).row := by
                rw [← PtD.setP D2 (i := 15) (by omega) cv]
                exact ((hDq.set _ _).set _ _).set _ _
              have hB8 : Below wf.heap.size wf (((wq.setCell ⟨gp, 45, none⟩ (.int .i64 cv.x)).setCell ⟨gp, 46, none⟩ (.int .i64 cv.y)).setCell ⟨gp, 47, none⟩ (.int .i64 cv.z)) := bel_set (bel_set (bel_set hBq (by simpa using hgp) _) (by simpa using hgp) _) (by simpa using hgp) _
              clear hDq hBq u2 ul g0 g1 g2 gl e0 e1 e2 f0 f1 f2 el
              generalize ((wq.setCell ⟨gp, 45, none⟩ (.int .i64 cv.x)).setCell ⟨gp, 46, none⟩ (.int .i64 cv.y)).setCell ⟨gp, 47, none⟩ (.int .i64 cv.z) = W8 at *
              generalize D2.putP 15 cv = DM at *
              have u2 := (hFf.below hB8).cell 2
              have ul := (hFf.below hB8).lt
              obtain ⟨⟨g0, g1, g2⟩, gl, _, _, _⟩ := row3P (hMf.below hB8) hy
              simp only [pC, if_true, if_false, Nat.one_ne_zero, show ¬ (2 : Nat) = 0 by omega, show ¬ (2 : Nat) = 1 by omega] at g0 g1 g2
              have e0 : W8.cell? ⟨gp, 58, none⟩ = some (PtD.c DM 58) := by rw [hD8.cell]; exact PtD.at_ _ (by omega)
              have f0 := hD8.frozen 58
              have e1 : W8.cell? ⟨gp, 59, none⟩ = some (PtD.c DM 59) := by rw [hD8.cell]; exact PtD.at_ _ (by omega)
              have f1 := hD8.frozen 59
              have e2 : W8.cell? ⟨gp, 60, none⟩ = some (PtD.c DM 60) := by rw [hD8.cell]; exact PtD.at_ _ (by omega)
              have f2 := hD8.frozen 60
              have el := hD8.lt
              generalize N.normal (y2 : Int) = nv at *
              go_wp2
              go_roundw
              case rel =>
                have hD9 : Blk (((W8.setCell ⟨gp, 58, none⟩ (.int .i64 nv.x)).setCell ⟨gp, 59, none⟩ (.int .i64 nv.y)).setCell ⟨gp, 60, none⟩ (.int .i64 nv.z)) gp 43 (DM.putN 2 nv).row := by
                  rw [← PtD.setN DM (i := 2) (by omega) nv]
                  exact ((hD8.set _ _).set _ _).set _ _
                have hB9 : Below wf.heap.size wf (((W8.setCell ⟨gp, 58, none⟩ (.int .i64 nv.x)).setCell ⟨gp, 59, none⟩ (.int .i64 nv.y)).setCell ⟨gp, 60, none⟩ (.int .i64 nv.z)) := bel_set (bel_set (bel_set hB8 (by simpa using hgp) _) (by simpa using hgp) _) (by simpa using hgp) _
                rw [← hnx.out] at hD9
                exact ⟨hB9, .inr (.inr (.inr (.inl ⟨rfl, hD9⟩)))⟩
              case measure => simp [intOf]
            · have hy : y3 < N.vs.length := by omega
              have hnx := hD4.out
              have u3 := (hFf.below hBq).cell 3
              have ul := (hFf.below hBq).lt
              obtain ⟨⟨g0, g1, g2⟩, gl, _, _, _⟩ := row3P (hPf.below hBq) hy
              simp only [pC, if_true, if_false, Nat.one_ne_zero, show ¬ (2 : Nat) = 0 by omega, show ¬ (2 : Nat) = 1 by omega] at g0 g1 g2
              have e0 : wq.cell? ⟨gp, 36, none⟩ = some (PtD.c D3 36) := by rw [hDq.cell]; exact PtD.at_ _ (by omega)
              have f0 := hDq.frozen 36
              have e1 : wq.cell? ⟨gp, 37, none⟩ = some (PtD.c D3 37) := by rw [hDq.cell]; exact PtD.at_ _ (by omega)
              have f1 := hDq.frozen 37
              have e2 : wq.cell? ⟨gp, 38, none⟩ = some (PtD.c D3 38) := by rw [hDq.cell]; exact PtD.at_ _ (by omega)
              have f2 := hDq.frozen 38
              have el := hDq.lt
              generalize N.corner (y3 : Int) = cv at *
              replace hnx := Lib.hid hnx
              have z0 : (0 : Int) ≤ (y3 : Int) := by omega
              have z1 : (y3 : Int) < (N.vs.length : Int) := by omega
              go_upto_region 12 with (fail)
              refine wp_region_lit ?_
              refine wpList_val rfl (.int .i64 3) wq (by kernel_rfl) ?_
              simp only [Act.put, List.setIfInBounds_toArray, List.set_cons_succ, List.set_cons_zero]
              refine wpList_val rfl (.int .i64 12) wq (by kernel_rfl) ?_
              simp only [Act.put, List.setIfInBounds_toArray, List.set_cons_succ, List.set_cons_zero]
              go_upto_region 14 with (fail)
              have hD8 : Blk (((wq.setCell ⟨gp, 36, none⟩ (.int .i64 cv.x)).setCell ⟨gp, 37, none⟩ (.int .i64 cv.y)).setCell ⟨gp, 38, none⟩ (.int .i64 cv.z)) gp 43 (D3.putP 12 cv).row := by
                rw [← PtD.setP D3 (i := 12) (by omega) cv]
                exact ((hDq.set _ _).set _ _).set _ _
              have hB8 : Below wf.heap.size wf (((wq.setCell ⟨gp, 36, none⟩ (.int .i64 cv.x)).setCell ⟨gp, 37, none⟩ (.int .i64 cv.y)).setCell ⟨gp, 38, none⟩ (.int .i64 cv.z)) := bel_set (bel_set (bel_set hBq (by simpa using hgp) _) (by simpa using hgp) _) (by simpa using hgp) _
              clear hDq hBq u3 ul g0 g1 g2 gl e0 e1 e2 f0 f1 f2 el
              generalize ((wq.setCell ⟨gp, 36, none⟩ (.int .i64 cv.x)).setCell ⟨gp, 37, none⟩ (.int .i64 cv.y)).setCell ⟨gp, 38, none⟩ (.int .i64 cv.z) = W8 at *
              generalize D3.putP 12 cv = DM at *
              have u3 := (hFf.below hB8).cell 3
              have ul := (hFf.below hB8).lt
              obtain ⟨⟨g0, g1, g2⟩, gl, _, _, _⟩ := row3P (hMf.below hB8) hy
              simp only [pC, if_true, if_false, Nat.one_ne_zero, show ¬ (2 : Nat) = 0 by omega, show ¬ (2 : Nat) = 1 by omega] at g0 g1 g2
              have e0 : W8.cell? ⟨gp, 61, none⟩ = some (PtD.c DM 61) := by rw [hD8.cell]; exact PtD.at_ _ (by omega)
              have f0 := hD8.frozen 61
              have e1 : W8.cell? ⟨gp, 62, none⟩ = some (PtD.c DM 62) := by rw [hD8.cell]; exact PtD.at_ _ (by omega)
              have f1 := hD8.frozen 62
              have e2 : W8.cell? ⟨gp, 63, none⟩ = some (PtD.c DM 63) := by rw [hD8.cell]; exact PtD.at_ _ (by omega)
              have f2 := hD8.frozen 63
              have el := hD8.lt
              generalize N.normal (y3 : Int) = nv at *
              go_wp2
              go_roundw
              case rel =>
                have hD9 : Blk (((W8.setCell ⟨gp, 61, none⟩ (.int .i64 nv.x)).setCell ⟨gp, 62, none⟩ (.int .i64 nv.y)).setCell ⟨gp, 63, none⟩ (.int .i64 nv.z)) gp 43 (DM.putN 3 nv).row := by
                  rw [← PtD.setN DM (i := 3) (by omega) nv]
                  exact ((hD8.set _ _).set _ _).set _ _
                have hB9 : Below wf.heap.size wf (((W8.setCell ⟨gp, 61, none⟩ (.int .i64 nv.x)).setCell ⟨gp, 62, none⟩ (.int .i64 nv.y)).setCell ⟨gp, 63, none⟩ (.int .i64 nv.z)) := bel_set (bel_set (bel_set hB8 (by simpa using hgp) _) (by simpa using hgp) _) (by simpa using hgp) _
                rw [← hnx.out] at hD9
                exact ⟨hB9, .inr (.inr (.inr (.inr (⟨rfl, hD9⟩))))⟩
              case measure => simp [intOf]
            · have hGq := hGf.below hBq
              have hB3q := bel_trans hBf hBq
              have gl := hGq.lt
              have dl := hDq.lt
              go_upto_region 17 with (first | ((refine load_Pt rfl _ rfl gp rfl D4 hDq ?_); simp only [Act.put, List.setIfInBounds_toArray, List.set_cons_succ, List.set_cons_zero]) | ((refine store_PtAt rfl _ _ rfl gL N.fs.length k hlt (rowQ N sk k) D4 rfl rfl _ hGq ?_); simp only [Act.put, List.setIfInBounds_toArray, List.set_cons_succ, List.set_cons_zero]) | fail)
              have hG9 := hGq.setPt hlt D4
              rw [← hpt2.out, rowQ_next] at hG9
              have hB9 : Below w3.heap.size w3 (wq.setCells gL (k * 65) D4.row.toList) := bel_setCells (by rw [hgL.out]; exact Nat.le_refl _) _ _ _ hB3q
              rw [hpt2.out] at hG9
              generalize wq.setCells gL (k * 65) D4.row.toList = w9 at *
              clear hGq hB3q gl dl hDq hBq hNf hPf hMf hGf hBf hFf tl fl hGw
              go_wp2
              go_roundw
              case rel => exact ⟨k + 1, by go_num, by omega, hB9, hG9⟩
              case measure => simp [intOf]; omega
      · obtain rfl : k = N.fs.length := by omega
        have hle := hgL.out
        have hBW := bel_trans hB3 hBr
        have hQ : patC N.fs.length (rowQ N sk N.fs.length) = patC N.fs.length (N.patch sk) := patC_ext fun v hv => by unfold rowQ; rw [if_pos hv]
        rw [hQ] at hGr
        replace hle := Lib.hid hle
        go_wp2
        go_ret2
        rw [hfl.out] at hGr
        exact ⟨N, gL, by rw [← hfl.out]; rfl, hBW, by have := hle.out; have := hB3.size; omega, hGr, hNN.out.1, hNN.out.2.1, hNN.out.2.2.1, hNN.out.2.2.2⟩
end Go.Proofs.Ytpdnaceggpdleab
namespace Go.Proofs.Ytpdnaceggpdleab
open Go.RowKit
set_option linter.unusedVariables false
set_option linter.unusedSimpArgs false
set_option linter.unnecessarySimpa false
set_option maxRecDepth 100000
def sqV10 : List P3 := [⟨0, 0, 0⟩, ⟨18, 0, 0⟩, ⟨18, 18, 0⟩, ⟨0, 18, 0⟩]
def sqC10 : Cg := ⟨sqV10, sq, []⟩
theorem sq_in10 : ∀ p ∈ sqV10, InP 65536 p := by
  intro p hp
  simp only [sqV10, List.mem_cons, List.not_mem_nil, or_false] at hp
  rcases hp with rfl | rfl | rfl | rfl <;> simp [InP]
theorem sq_patch {N : NetD} (hv : N.vs = sqV10) (hf : N.fs = sq) (hT : TopoS 4 sq N.t) (hs : sharpP N.t.es [] = some N.sh) : (N.patch 3 0).pt 0 = ⟨3, 3, 0⟩ ∧ (N.patch 3 0).pt 1 = ⟨6, 0, 0⟩ ∧ (N.patch 3 0).pt 4 = ⟨0, 6, 0⟩ := by
  have he : N.t.es = sqE := hT.edges.one sq_edges
  have hs2 : N.sh = [255, 255, 255, 255] := by
    rw [he] at hs
    exact (Option.some.inj hs).symm
  obtain ⟨vs, fs, sh, ⟨es, fans, rs⟩⟩ := N
  clear hs hT
  simp only at hv hf he hs2
  subst hv hf he hs2
  refine ⟨?_, ?_, ?_⟩ <;> kernel_rfl
theorem cell_patch {W : World} {g n : Nat} {q : Nat → PtD} {t : TypeId} (h : Blk W g t (patC n q)) {v j : Nat} (hv : v < n) (hj : j < 65) : W.cell? ⟨g, v * 65 + j, none⟩ = some ((q v).c j) := by
  rw [h.cell]; exact rowCs_at _ hv hj
set_option maxHeartbeats 4000000 in
theorem alive10_any (W : World) : Calls Try.prog 5 #[] W fun e W' => e = .returned (.bool true) ∧ Below W.heap.size W W' := by
  obtain ⟨W3, hW3⟩ : ∃ W3, W3 = ((W.alloc (.cells #[.int .i64 0, .int .i64 0, .int .i64 0, .int .i64 18, .int .i64 0, .int .i64 0, .int .i64 18, .int .i64 18, .int .i64 0, .int .i64 0, .int .i64 18, .int .i64 0] 30)).alloc (.cells #[.int .i64 0, .int .i64 1, .int .i64 2, .int .i64 3] 3)).alloc (.cells #[.slice (some ⟨W.heap.size + 1, 0, none⟩) 4 4] 31) := ⟨_, rfl⟩
  have hB3 : Below W.heap.size W W3 := by rw [hW3]; exact bel_alloc (bel_alloc (bel_alloc (Below.refl _ _) _) _) _
  have hV3 : VL W3 (some ⟨W.heap.size, 0, none⟩) sqV10 := by
    rw [hW3]
    exact ((VL4 W ⟨0, 0, 0⟩ ⟨18, 0, 0⟩ ⟨18, 18, 0⟩ ⟨0, 18, 0⟩).below (bel_alloc (Below.refl _ _) _)).below (bel_alloc (Below.refl _ _) _)
  have hF3 : FL W3 (some ⟨W.heap.size + 2, 0, none⟩) sq := by
    have b1 : Blk W3 (W.heap.size + 1) 3 #[.int .i64 0, .int .i64 1, .int .i64 2, .int .i64 3] := by rw [hW3]; exact (Blk.new _ _ _ _ (by simp)).alloc _
    have b2 : Blk W3 (W.heap.size + 2) 31 #[.slice (some ⟨W.heap.size + 1, 0, none⟩) 4 4] := by rw [hW3]; exact Blk.new _ _ _ _ (by simp)
    refine fun _ => ⟨W.heap.size + 2, 0, rfl, b2.lt, fun i hi => ?_⟩
    obtain rfl : i = 0 := by simp [sq] at hi; omega
    refine ⟨some ⟨W.heap.size + 1, 0, none⟩, 4, b2.cell 0, fun _ => ⟨W.heap.size + 1, 0, rfl, b1.lt, fun j hj => ?_⟩⟩
    rcases (by simp [sq] at hj; omega : j = 0 ∨ j = 1 ∨ j = 2 ∨ j = 3) with rfl | rfl | rfl | rfl
    · exact b1.cell 0
    · exact b1.cell 1
    · exact b1.cell 2
    · exact b1.cell 3
  have hc : CgV W3 sqC10 (some ⟨W.heap.size, 0, none⟩) (some ⟨W.heap.size + 2, 0, none⟩) none := {
    i1 := fun p hp => by
      simp only [sqC10, sqV10, List.mem_cons, List.not_mem_nil, or_false] at hp
      rcases hp with rfl | rfl | rfl | rfl <;> simp [I3, i64B]
    i2 := by simp [sqC10, sq, i64B]
    i3 := by simp [sqC10]
    v1 := hV3
    v2 := hF3
    v3 := VL.nil _ _
    few := by simp [sqC10, sqV10, sq, tot] }
  have cL := pbuild_any W3 sqC10 3 (some ⟨W.heap.size, 0, none⟩) (some ⟨W.heap.size + 2, 0, none⟩) none 4 1 0 hc sq_surf (fun t _ => ⟨_, rfl⟩) sq_in10 (by intro x hx; simp [sqC10, sq] at hx; rw [hx]; rfl)
  have cL2 : Calls Try.prog 7 #[.agg #[.slice (some ⟨W.heap.size, 0, none⟩) 4 4, .slice (some ⟨W.heap.size + 2, 0, none⟩) 1 1, .slice none 0 0], .int .i64 3] W3 fun e W' => ∃ (N : NetD) (g : Nat), e = .returned (.tuple #[.slice (some ⟨g, 0, none⟩) 1 1, .int .i64 0]) ∧ Below W3.heap.size W3 W' ∧ W3.heap.size ≤ g ∧ Blk W' g 43 (patC 1 (N.patch 3)) ∧ N.vs = sqV10 ∧ N.fs = sq ∧ TopoS 4 sq N.t ∧ sharpP N.t.es [] = some N.sh := cL
  replace hW3 := Lib.hid hW3
  clear cL hV3 hF3 hc
  go_enter Try.func5, Try.ntmps5
  rw [hW3.out] at cL2
  go_upto_region 2 with (first | (go_at_call 7; (with_reducible refine cL2.mono ?_); rintro e W4 ⟨N, g, rfl, hb4, _, hG, h1, h2, h3, h4⟩; obtain ⟨p0, p1, p4⟩ := sq_patch h1 h2 h3 h4) | fail)
  rw [← hW3.out] at hb4
  have hB4 := bel_trans hB3 hb4
  have gl := hG.lt
  have cc := fun (j : Nat) (hj : j < 65) => cell_patch hG (v := 0) (j := j) (by omega) hj
  have a0 : W4.cell? ⟨g, 0, none⟩ = some (.int .i64 3) := by rw [cc 0 (by omega)]; show some (Value.int .i64 ((N.patch 3 0).pt 0).x) = _; rw [p0]
  have a1 : W4.cell? ⟨g, 1, none⟩ = some (.int .i64 3) := by rw [cc 1 (by omega)]; show some (Value.int .i64 ((N.patch 3 0).pt 0).y) = _; rw [p0]
  have a2 : W4.cell? ⟨g, 2, none⟩ = some (.int .i64 0) := by rw [cc 2 (by omega)]; show some (Value.int .i64 ((N.patch 3 0).pt 0).z) = _; rw [p0]
  have a3 : W4.cell? ⟨g, 3, none⟩ = some (.int .i64 6) := by rw [cc 3 (by omega)]; show some (Value.int .i64 ((N.patch 3 0).pt 1).x) = _; rw [p1]
  have a4 : W4.cell? ⟨g, 4, none⟩ = some (.int .i64 0) := by rw [cc 4 (by omega)]; show some (Value.int .i64 ((N.patch 3 0).pt 1).y) = _; rw [p1]
  have a5 : W4.cell? ⟨g, 5, none⟩ = some (.int .i64 0) := by rw [cc 5 (by omega)]; show some (Value.int .i64 ((N.patch 3 0).pt 1).z) = _; rw [p1]
  have b0 : W4.cell? ⟨g, 12, none⟩ = some (.int .i64 0) := by rw [cc 12 (by omega)]; show some (Value.int .i64 ((N.patch 3 0).pt 4).x) = _; rw [p4]
  have b1 : W4.cell? ⟨g, 13, none⟩ = some (.int .i64 6) := by rw [cc 13 (by omega)]; show some (Value.int .i64 ((N.patch 3 0).pt 4).y) = _; rw [p4]
  have b2 : W4.cell? ⟨g, 14, none⟩ = some (.int .i64 0) := by rw [cc 14 (by omega)]; show some (Value.int .i64 ((N.patch 3 0).pt 4).z) = _; rw [p4]
  have b3 : W4.cell? ⟨g, 64, none⟩ = some (.int .i64 3) := by rw [cc 64 (by omega)]; rfl
  clear cc hG p0 p1 p4 h1 h2 h3 h4 cL2 hW3 hb4 hB3
  go_wp2
  go_ret
  exact ⟨rfl, hB4⟩
end Go.Proofs.Ytpdnaceggpdleab
namespace Go.Proofs.Ytpdnaceggpdleab
end Go.Proofs.Ytpdnaceggpdleab
namespace Go.Proofs.Ytpdnaceggpdleab
open Go.RowKit
set_option linter.unusedVariables false
set_option linter.unusedSimpArgs false
set_option linter.unusedSectionVars false
theorem mulb {a w m k : Int} (h1 : -m ≤ a) (h2 : a ≤ m) (h3 : 0 ≤ w) (h4 : w ≤ k) (hm : 0 ≤ m) : -(m * k) ≤ a * w ∧ a * w ≤ m * k := by
  have a1 := Int.mul_le_mul_of_nonneg_right h2 h3
  have a2 := Int.mul_le_mul_of_nonneg_left h4 hm
  have a3 := Int.mul_le_mul_of_nonneg_right h1 h3
  rw [Int.neg_mul] at a3
  omega
/-- Weights that a mean may have. -/
def WOk (g : P3 → Int) (l : List (P3 × Int)) : Prop := ∀ q ∈ l, (-65536 ≤ g q.1 ∧ g q.1 ≤ 65536) ∧ 0 ≤ q.2 ∧ q.2 ≤ 10000
theorem co_foldN {g : P3 → Int} (hg : Co g) : ∀ (l : List (P3 × Int)) (s : P3), WOk g l → (-2305843009213693952 ≤ g s - l.length * 655360000 ∧ g s + l.length * 655360000 ≤ 2305843009213693952) → g (foldN s l) = g s + (l.map fun q => g q.1 * q.2).sum
  | [], s, _, _ => by simp [foldN]
  | q :: l, s, h, hb => by
    obtain ⟨h1, h2, h3⟩ := h q (by simp)
    have hm := mulb h1.1 h1.2 h2 h3 (by omega)
    simp only [List.length_cons] at hb
    have e1 : wrap64 (g q.1 * q.2) = g q.1 * q.2 := by generalize g q.1 * q.2 = P at *; unfold wrap64; omega
    have e : g (addW s q) = g s + g q.1 * q.2 := by
      unfold addW
      rw [hg.ad, hg.sc, e1]
      generalize g q.1 * q.2 = P at *; unfold wrap64; omega
    show g (foldN (addW s q) l) = _
    rw [co_foldN hg l _ (fun x hx => h x (List.mem_cons_of_mem _ hx)) (by rw [e]; omega), e, List.map_cons, List.sum_cons]
    omega
theorem sum_lo {g : P3 → Int} {lo hi : Int} : ∀ l : List (P3 × Int), (∀ q ∈ l, lo ≤ g q.1 ∧ g q.1 ≤ hi ∧ 0 ≤ q.2) → lo * (l.map (·.2)).sum ≤ (l.map fun q => g q.1 * q.2).sum ∧ (l.map fun q => g q.1 * q.2).sum ≤ hi * (l.map (·.2)).sum
  | [], _ => by simp
  | q :: l, h => by
    obtain ⟨h1, h2, h3⟩ := h q (by simp)
    have ih := sum_lo l fun x hx => h x (List.mem_cons_of_mem _ hx)
    simp only [List.map_cons, List.sum_cons, Int.mul_add]
    have a1 := Int.mul_le_mul_of_nonneg_right h1 h3
    have a2 := Int.mul_le_mul_of_nonneg_right h2 h3
    omega
theorem sum_wb {g : P3 → Int} : ∀ l : List (P3 × Int), WOk g l → -(l.length * 655360000 : Int) ≤ (l.map fun q => g q.1 * q.2).sum ∧ (l.map fun q => g q.1 * q.2).sum ≤ l.length * 655360000
  | [], _ => by simp
  | q :: l, h => by
    obtain ⟨h1, h2, h3⟩ := h q (by simp)
    have hm := mulb h1.1 h1.2 h2 h3 (by omega)
    have ih := sum_wb l fun x hx => h x (List.mem_cons_of_mem _ hx)
    simp only [List.map_cons, List.sum_cons, List.length_cons]
    omega
/-- A mean of points in a box is in the box. -/
theorem mean_box {g : P3 → Int} (hg : Co g) {l : List (P3 × Int)} {d lo hi : Int} (hl : l.length ≤ 1000000) (hw : WOk g l) (hb : ∀ q ∈ l, lo ≤ g q.1 ∧ g q.1 ≤ hi) (hd : (l.map (·.2)).sum = d) (h0 : 0 < d) (h1 : d ≤ 1000000000) : lo ≤ g (meanP d l) ∧ g (meanP d l) ≤ hi := by
  unfold meanP
  rw [hg.of, co_foldN hg l Z3 hw (by rw [hg.z]; omega), hg.z, Int.zero_add]
  have a1 := sum_lo l fun q hq => ⟨(hb q hq).1, (hb q hq).2, (hw q hq).2.1⟩
  rw [hd] at a1
  have a2 := sum_wb l hw
  exact rnd_box h0 (by omega) a1.1 a1.2 (by omega)
section
variable {N : NetD} (ok : NetOk N) {g : P3 → Int} (hg : Co g) {lo hi : Int} (hlo : -65536 ≤ lo) (hhi : hi ≤ 65536) (hb : ∀ p ∈ N.vs, lo ≤ g p ∧ g p ≤ hi) (hfl : ∀ x ∈ N.t.fans, x.length ≤ 9000) (hfp : ∀ v : Nat, v < N.vs.length → 0 < (N.t.fans.getD v []).length)
include ok hg hlo hhi hb hfl hfp
theorem vat_box {v : Int} (h0 : 0 ≤ v) (h1 : v < N.vs.length) : lo ≤ g (vat N.vs v) ∧ g (vat N.vs v) ≤ hi := hb _ (vat_at _ _ h0 h1)
theorem corn_box {f : Int} (h0 : 0 ≤ f) (h1 : f < N.fs.length) (v : Int) (a : Nat) : lo ≤ g (vat N.vs (cornA (N.fs.getD f.toNat []) v a)) ∧ g (vat N.vs (cornA (N.fs.getD f.toNat []) v a)) ≤ hi := by
  have hf : f.toNat < N.fs.length := by omega
  have hx : N.fs.getD f.toNat [] = N.fs[f.toNat] := by rw [List.getD_eq_getElem?_getD, List.getElem?_eq_getElem hf]; rfl
  obtain ⟨h4, hin⟩ := ok.four _ (List.getElem_mem hf)
  rw [hx]
  have : cornA N.fs[f.toNat] v a ∈ N.fs[f.toNat] := by
    unfold cornA
    rw [List.getD_eq_getElem?_getD, List.getElem?_eq_getElem (by omega)]
    exact List.getElem_mem _
  obtain ⟨g1, g2⟩ := hin _ this
  exact vat_box ok hg hlo hhi hb hfl hfp g1 g2
theorem around_rng (v : Int) : 0 ≤ N.around v ∧ N.around v ≤ 9000 := by
  unfold NetD.around
  split
  · constructor
    · omega
    · by_cases h : v.toNat < N.t.fans.length
      · have := hfl _ (List.getElem_mem h)
        rw [List.getD_eq_getElem?_getD, List.getElem?_eq_getElem h, Option.getD_some]
        omega
      · rw [List.getD_eq_getElem?_getD, List.getElem?_eq_none (by omega), Option.getD_none]
        simp
  · omega
theorem inner_box {f : Int} (h0 : 0 ≤ f) (h1 : f < N.fs.length) (v : Int) : lo ≤ g (N.inner f v) ∧ g (N.inner f v) ≤ hi := by
  have ha := around_rng ok hg hlo hhi hb hfl hfp v
  have hc := corn_box ok hg hlo hhi hb hfl hfp h0 h1 v
  have c0 := hc 0
  have c1 := hc 1
  have c2 := hc 2
  have c3 := hc 3
  unfold NetD.inner
  refine mean_box hg (by simp) (fun q hq => ?_) (fun q hq => ?_) (by simp) (by omega) (by omega)
  · simp only [List.mem_cons, List.not_mem_nil, or_false] at hq
    rcases hq with rfl | rfl | rfl | rfl <;> (simp only; omega)
  · simp only [List.mem_cons, List.not_mem_nil, or_false] at hq
    rcases hq with rfl | rfl | rfl | rfl <;> (simp only; omega)
theorem near_box {v w : Int} (hv0 : 0 ≤ v) (hv1 : v < N.vs.length) (hw0 : 0 ≤ w) (hw1 : w < N.vs.length) (he : eix N.t.es v w < N.t.es.length) : lo ≤ g (N.near v w) ∧ g (N.near v w) ≤ hi := by
  have a1 := vat_box ok hg hlo hhi hb hfl hfp hv0 hv1
  have a2 := vat_box ok hg hlo hhi hb hfl hfp hw0 hw1
  unfold NetD.near
  simp only
  split
  · rename_i hs
    have hsl : eix N.t.es v w < N.sh.length := by rw [ok.ns]; exact he
    have hz : eix N.t.es v w < (N.t.es.zip N.sh).length := by rw [List.length_zip]; omega
    rw [List.getD_eq_getElem?_getD, List.getElem?_eq_getElem hsl, Option.getD_some] at hs
    have := ok.soft _ (List.getElem_mem hz) (by rw [List.getElem_zip]; exact hs)
    rw [List.getElem_zip] at this
    simp only at this
    rw [List.getD_eq_getElem?_getD, List.getElem?_eq_getElem he, Option.getD_some]
    have b1 := inner_box ok hg hlo hhi hb hfl hfp this.1.1.1 this.1.1.2 v
    have b2 := inner_box ok hg hlo hhi hb hfl hfp this.1.2.1 this.1.2.2 v
    refine mean_box hg (by simp) (fun q hq => ?_) (fun q hq => ?_) (by simp) (by omega) (by omega)
    · simp only [List.mem_cons, List.not_mem_nil, or_false] at hq
      rcases hq with rfl | rfl <;> (simp only; omega)
    · simp only [List.mem_cons, List.not_mem_nil, or_false] at hq
      rcases hq with rfl | rfl <;> (simp only; omega)
  · refine mean_box hg (by simp) (fun q hq => ?_) (fun q hq => ?_) (by simp) (by omega) (by omega)
    · simp only [List.mem_cons, List.not_mem_nil, or_false] at hq
      rcases hq with rfl | rfl <;> (simp only; omega)
    · simp only [List.mem_cons, List.not_mem_nil, or_false] at hq
      rcases hq with rfl | rfl <;> (simp only; omega)
theorem ends_box (v : Int) : ∀ p ∈ N.ends v, lo ≤ g p ∧ g p ≤ hi := fun p hp => by
  unfold NetD.ends at hp
  obtain ⟨q, hq, h⟩ := List.mem_filterMap.1 hp
  split at h
  · cases h
  · obtain ⟨u, hu, rfl⟩ := Option.map_eq_some_iff.1 h
    have he : q.1 ∈ N.t.es := (List.of_mem_zip hq).1
    have := ok.rng _ he
    unfold other at hu
    split at hu
    · obtain rfl := Option.some.inj hu
      exact vat_box ok hg hlo hhi hb hfl hfp this.2.1 this.2.2
    · split at hu
      · obtain rfl := Option.some.inj hu
        exact vat_box ok hg hlo hhi hb hfl hfp this.1.1 this.1.2
      · cases hu
theorem middle_box {v : Nat} (hv : v < N.vs.length) : lo ≤ g (N.middle (v : Int)) ∧ g (N.middle (v : Int)) ≤ hi := by
  have hp := hfp v hv
  have hvf : v < N.t.fans.length := by rw [ok.nf]; exact hv
  have hl : (N.t.fans.getD v []).length ≤ 9000 := by
    rw [List.getD_eq_getElem?_getD, List.getElem?_eq_getElem hvf]; exact hfl _ (List.getElem_mem hvf)
  have hin : ∀ f ∈ N.t.fans.getD v [], lo ≤ g (N.inner f (v : Int)) ∧ g (N.inner f (v : Int)) ≤ hi := fun f hf => by
    have := (ok.fan v hv f hf).1
    exact inner_box ok hg hlo hhi hb hfl hfp this.1 this.2 _
  unfold NetD.middle
  rw [Int.toNat_natCast]
  refine mean_box hg (by rw [List.length_map]; omega) (fun q hq => ?_) (fun q hq => ?_) ?_ (by omega) (by omega)
  · obtain ⟨f, hf, rfl⟩ := List.mem_map.1 hq
    have := hin f hf
    simp only; omega
  · obtain ⟨f, hf, rfl⟩ := List.mem_map.1 hq
    exact hin f hf
  · rw [List.map_map]
    generalize N.t.fans.getD v [] = l
    induction l with
    | nil => rfl
    | cons x r ih => rw [List.map_cons, List.sum_cons, ih, List.length_cons]; simp only [Function.comp]; omega
theorem corner_box {v : Nat} (hv : v < N.vs.length) : lo ≤ g (N.corner (v : Int)) ∧ g (N.corner (v : Int)) ≤ hi := by
  have hm := middle_box ok hg hlo hhi hb hfl hfp hv
  have hv2 := vat_box ok hg hlo hhi hb hfl hfp (v := (v : Int)) (by omega) (by omega)
  have he := ends_box ok hg hlo hhi hb hfl hfp (v : Int)
  unfold NetD.corner
  split
  · exact hm
  · exact hm
  · rename_i a b e
    rw [e] at he
    have a1 := he a (by simp)
    have a2 := he b (by simp)
    refine mean_box hg (by simp) (fun q hq => ?_) (fun q hq => ?_) (by simp) (by omega) (by omega)
    · simp only [List.mem_cons, List.not_mem_nil, or_false] at hq
      rcases hq with rfl | rfl | rfl <;> (simp only; omega)
    · simp only [List.mem_cons, List.not_mem_nil, or_false] at hq
      rcases hq with rfl | rfl | rfl <;> (simp only; omega)
  · exact hv2
theorem patch_box (sk : Int) {f : Nat} (hf : f < N.fs.length) {u : Nat} (hu : u < 16) : lo ≤ g ((N.patch sk f).pt u) ∧ g ((N.patch sk f).pt u) ≤ hi := by
  have hx : N.fs.getD f [] = N.fs[f] := by rw [List.getD_eq_getElem?_getD, List.getElem?_eq_getElem hf]; rfl
  obtain ⟨h4, hin⟩ := ok.four _ (List.getElem_mem hf)
  have hed := ok.edge _ (List.getElem_mem hf)
  have hI := fun v => inner_box ok hg hlo hhi hb hfl hfp (f := (f : Int)) (by omega) (by omega) v
  unfold NetD.patch NetD.side
  rw [hx]
  have hc : ∀ k, k < 4 → 0 ≤ N.fs[f].getD k 0 ∧ N.fs[f].getD k 0 < N.vs.length := fun k hk => by
    refine hin _ ?_
    rw [List.getD_eq_getElem?_getD, List.getElem?_eq_getElem (by omega)]
    exact List.getElem_mem _
  have e0 := hed 0 (by omega)
  have e1 := hed 1 (by omega)
  have e2 := hed 2 (by omega)
  have e3 := hed 3 (by omega)
  have c0 := hc 0 (by omega)
  have c1 := hc 1 (by omega)
  have c2 := hc 2 (by omega)
  have c3 := hc 3 (by omega)
  simp only [Nat.reduceAdd, Nat.reduceMod] at e0 e1 e2 e3
  generalize N.fs[f].getD 0 0 = x0 at *
  generalize N.fs[f].getD 1 0 = x1 at *
  generalize N.fs[f].getD 2 0 = x2 at *
  generalize N.fs[f].getD 3 0 = x3 at *
  have hN := fun {v w : Int} hv0 hv1 hw0 hw1 he => near_box ok hg hlo hhi hb hfl hfp (v := v) (w := w) hv0 hv1 hw0 hw1 he
  have hC : ∀ y : Int, 0 ≤ y → y < N.vs.length → lo ≤ g (N.corner y) ∧ g (N.corner y) ≤ hi := fun y h0 h1 => by
    obtain ⟨n, rfl⟩ := Int.eq_ofNat_of_zero_le h0
    exact corner_box ok hg hlo hhi hb hfl hfp (by omega)
  rcases (by omega : u = 0 ∨ u = 1 ∨ u = 2 ∨ u = 3 ∨ u = 4 ∨ u = 5 ∨ u = 6 ∨ u = 7 ∨ u = 8 ∨ u = 9 ∨ u = 10 ∨ u = 11 ∨ u = 12 ∨ u = 13 ∨ u = 14 ∨ u = 15) with rfl | rfl | rfl | rfl | rfl | rfl | rfl | rfl | rfl | rfl | rfl | rfl | rfl | rfl | rfl | rfl
  · exact hC x0 c0.1 c0.2
  · exact hN c0.1 c0.2 c1.1 c1.2 e0
  · exact hN c1.1 c1.2 c0.1 c0.2 (by rw [eix_symm]; exact e0)
  · exact hC x1 c1.1 c1.2
  · exact hN c0.1 c0.2 c3.1 c3.2 (by rw [eix_symm]; exact e3)
  · exact hI x0
  · exact hI x1
  · exact hN c1.1 c1.2 c2.1 c2.2 e1
  · exact hN c3.1 c3.2 c0.1 c0.2 e3
  · exact hI x3
  · exact hI x2
  · exact hN c2.1 c2.2 c1.1 c1.2 (by rw [eix_symm]; exact e1)
  · exact hC x3 c3.1 c3.2
  · exact hN c3.1 c3.2 c2.1 c2.2 (by rw [eix_symm]; exact e2)
  · exact hN c2.1 c2.2 c3.1 c3.2 e2
  · exact hC x2 c2.1 c2.2
end
theorem cut_withinP (m ax ay az : Int) (k : Nat) : ∀ x y z : Int, CutInv m ax ay az k x y z → 1 ≤ m → wiB (cut3 k m x y z).1 (cut3 k m x y z).2.1 (cut3 k m x y z).2.2 m = true := by
  induction k with
  | zero =>
    intro x y z h hm
    cases hw : wiB x y z m
    · obtain ⟨j, hj, _⟩ := cut_next h hm hw; omega
    · exact hw
  | succ k ih =>
    intro x y z h hm
    cases hw : wiB x y z m
    · obtain ⟨j, hj, h2⟩ := cut_next h hm hw
      obtain rfl : k = j := by omega
      rw [cut3_on _ _ _ _ _ hw]
      exact ih _ _ _ h2 hm
    · rw [cut3_end _ _ _ _ _ hw]; exact hw
theorem cutP_in {p : P3} (h : I3 p) : wiB (cutP p).x (cutP p).y (cutP p).z 1023 = true :=
  cut_withinP 1023 p.x p.y p.z 63 p.x p.y p.z (cut_first 1023 p.x p.y p.z h.1.1 h.1.2 h.2.1.1 h.2.1.2 h.2.2.1 h.2.2.2) (by omega)
theorem patch_nm {N : NetD} (sk : Int) (f : Nat) {k : Nat} (hk : k < 4) : wiB ((N.patch sk f).nm k).x ((N.patch sk f).nm k).y ((N.patch sk f).nm k).z 1023 = true := by
  have h : ∀ v, wiB (N.normal v).x (N.normal v).y (N.normal v).z 1023 = true := fun v => cutP_in (foldP_I3z _)
  unfold NetD.patch
  rcases (by omega : k = 0 ∨ k = 1 ∨ k = 2 ∨ k = 3) with rfl | rfl | rfl | rfl
  · exact h _
  · exact h _
  · exact h _
  · exact h _
end Go.Proofs.Ytpdnaceggpdleab
namespace Go.Proofs.Ytpdnaceggpdleab
open Go.RowKit
set_option linter.unusedVariables false
set_option linter.unusedSimpArgs false
theorem sharpK_some {es : List Ed} : ∀ (ks : List P3) (l : List Int), (∀ k ∈ ks, eix es k.x k.y < es.length) → ∃ m, sharpK es l ks = some m
  | [], l, _ => ⟨l, rfl⟩
  | k :: r, l, h => by
    rw [sharpK, if_pos (h k (by simp))]
    exact sharpK_some r _ fun q hq => h q (List.mem_cons_of_mem _ hq)
theorem lessS_i64 {e : Ed} {s u : Int} (hs : i64B s) (h : lessS e s = some u) : i64B u := by
  unfold lessS at h
  split at h
  · cases h
  · rename_i hc
    have h2 : ¬ s < 2 := fun hh => hc (.inl hh)
    have := Option.some.inj h
    unfold i64B at *
    split at this <;> omega
theorem restP_mem (N : Int) : ∀ (L : List (Ed × Int)) (k : Nat) (p : P3), p ∈ restP N k L → ∃ (i : Nat) (h : i < L.length) (s : Int), lessS L[i].1 L[i].2 = some s ∧ (p = ⟨L[i].1.a, N + ((k + i : Nat) : Int), s⟩ ∨ p = ⟨L[i].1.b, N + ((k + i : Nat) : Int), s⟩)
  | [], k, p, h => by simp [restP] at h
  | q :: r, k, p, h => by
    rw [restP] at h
    rcases List.mem_append.1 h with h | h
    · refine ⟨0, by simp, ?_⟩
      cases e : lessS q.1 q.2 with
      | none => rw [e] at h; simp at h
      | some s =>
        rw [e] at h
        simp only [List.mem_cons, List.not_mem_nil, or_false] at h
        exact ⟨s, by simpa using e, by simpa using h⟩
    · obtain ⟨i, hi, s, h1, h2⟩ := restP_mem N r (k + 1) p h
      refine ⟨i + 1, by simpa using hi, s, by simpa using h1, ?_⟩
      rw [show k + (i + 1) = k + 1 + i by omega]
      simpa using h2
theorem edge_eix {n : Int} {fs : List (List Int)} {es : List Ed} (ok : WalkOk n fs) (hE : EdgesR (waysL 0 fs) es) {k : Nat} (hk : k < es.length) : ∃ w ∈ waysL 0 fs, eix es w.a w.b = k ∧ es[k].a = min w.a w.b ∧ es[k].b = max w.a w.b := by
  obtain ⟨w, hw, e2⟩ := (hE.mem _).1 (List.getElem_mem hk)
  have g1 : es[k].a = min w.a w.b := by rw [e2]; rfl
  have g2 : es[k].b = max w.a w.b := by rw [e2]; rfl
  refine ⟨w, hw, ?_, g1, g2⟩
  obtain ⟨k1, k2, k3⟩ := eix_spec ok hE hw
  apply Classical.byContradiction
  intro hne
  have hs := List.pairwise_iff_getElem.1 hE.sorted
  rcases Nat.lt_or_ge (eix es w.a w.b) k with h | h
  · have := hs _ _ k1 hk h
    unfold ltE at this; omega
  · have := hs _ _ hk k1 (by omega)
    unfold ltE at this; omega
theorem fine_half {n : Int} {fs : List (List Int)} {t t2 : TopoT} (hT : TopoS n fs t) (hT2 : TopoS (n + t.es.length + fs.length) (fine n t.es fs) t2) {k : Nat} (hk : k < t.es.length) {v : Int} (hv : v = t.es[k].a ∨ v = t.es[k].b) : eix t2.es v (n + (k : Int)) < t2.es.length := by
  obtain ⟨w, hw, he, ha, hb⟩ := edge_eix hT.walk hT.edges hk
  obtain ⟨idx, hi⟩ := idx_ex hT.walk hT.edges
  have hwv : v = w.a ∨ v = w.b := by omega
  rcases hwv with rfl | rfl
  · have h2 := (t_mem hT.walk hT.edges hi hw).2.1
    obtain ⟨h3, _⟩ := eix_spec hT2.walk hT2.edges h2
    have e : (Go.Proofs.Ytpdnaceggpdleab.t2 n t.es (idx w) w).b = n + (k : Int) := by show hAhead n t.es w = _; unfold hAhead; rw [he]
    exact (show eix t2.es w.a (n + (k : Int)) < t2.es.length by rw [← e]; exact h3)
  · obtain ⟨d, hd⟩ := hT.walk.next hw
    have h1 := (t_mem hT.walk hT.edges hi hd).1
    obtain ⟨h3, _⟩ := eix_spec hT2.walk hT2.edges h1
    have e : (t1 n t.es (idx ⟨w.b, d, w.f, w.a⟩) ⟨w.b, d, w.f, w.a⟩).a = n + (k : Int) := by show hBehind n t.es _ = _; unfold hBehind; simp only [he]
    rw [eix_symm]
    exact (show eix t2.es (n + (k : Int)) w.b < t2.es.length by rw [← e]; exact h3)
theorem fine_sharp {n : Int} {fs : List (List Int)} {t t2 : TopoT} (hT : TopoS n fs t) (hT2 : TopoS (n + t.es.length + fs.length) (fine n t.es fs) t2) (sh : List Int) : ∃ sh2, sharpP t2.es (restP n 0 (t.es.zip sh)) = some sh2 := by
  refine sharpK_some _ _ fun p hp => ?_
  obtain ⟨i, hi, s, _, h⟩ := restP_mem n _ 0 p hp
  have hi1 : i < t.es.length := by rw [List.length_zip] at hi; omega
  rw [List.getElem_zip, Nat.zero_add] at h
  rcases h with rfl | rfl
  · exact fine_half hT hT2 hi1 (.inl rfl)
  · exact fine_half hT hT2 hi1 (.inr rfl)
theorem quads_tot {fs : List (List Int)} (h : ∀ x ∈ fs, x.length = 4) : tot fs = 4 * fs.length := by
  induction fs with
  | nil => rfl
  | cons x r ih => have := ih (fun y hy => h y (List.mem_cons_of_mem _ hy)); have h4 := h x (by simp); unfold tot at *; simp only [List.map_cons, List.sum_cons, List.length_cons]; omega
theorem quads_four (n : Int) (es : List Ed) (fs : List (List Int)) : ∀ x ∈ fine n es fs, x.length = 4 := fun x hx => by
  obtain ⟨w, _, rfl⟩ := List.mem_map.1 hx; rfl
structure FineOk (r : Cg) : Prop where
  surf : Surf (r.vs.length : Int) r.fs
  sharp : ∀ t, TopoS (r.vs.length : Int) r.fs t → ∃ sh, sharpP t.es r.ks = some sh
  inp : ∀ p ∈ r.vs, InP 65536 p
  four : ∀ x ∈ r.fs, x.length = 4
  i1 : ∀ p ∈ r.vs, I3 p
  i2 : ∀ q ∈ r.fs, ∀ x ∈ q, i64B x
  i3 : ∀ p ∈ r.ks, I3 p
  few : r.vs.length ≤ 1000 ∧ r.fs.length ≤ 1000 ∧ tot r.fs ≤ 4000 ∧ r.ks.length ≤ 4000
theorem fine_ok {c : Cg} {t : TopoT} {sh : List Int} (hT : TopoS (c.vs.length : Int) c.fs t) (hs : sharpP t.es c.ks = some sh) (hi3 : ∀ p ∈ c.ks, I3 p) (hf : ∀ p ∈ c.vs, InP 65536 p) (few : c.vs.length + c.ks.length + c.fs.length + tot c.fs ≤ 300) : FineOk (levC c t sh) := by
  have hel : t.es.length ≤ tot c.fs := by have h1 := edges_le hT.walk hT.edges; rw [waysL_len] at h1; exact h1
  have hvl : (levC c t sh).vs.length = c.vs.length + t.es.length + c.fs.length := by
    simp only [levC, List.length_append, movedL_len, halvesL_len, midsL_len]
  have hvi : ((levC c t sh).vs.length : Int) = (c.vs.length : Int) + t.es.length + c.fs.length := by rw [hvl]; omega
  have hfl : (levC c t sh).fs.length = tot c.fs := by show (fine _ _ _).length = _; rw [fine_len, waysL_len]
  have hsurf : Surf ((levC c t sh).vs.length : Int) (levC c t sh).fs := by rw [hvi]; exact fine_surf hT
  have h4 : ∀ x ∈ (levC c t sh).fs, x.length = 4 := quads_four _ _ _
  have hin : ∀ p ∈ (levC c t sh).vs, InP 65536 p := fun p hp => by
    have a1 := lev_box co_x hT hs hf (by omega) (lo := -65536) (hi := 65536) (fun p hp => by have := hf p hp; unfold InP at this; omega) p hp
    have a2 := lev_box co_y hT hs hf (by omega) (lo := -65536) (hi := 65536) (fun p hp => by have := hf p hp; unfold InP at this; omega) p hp
    have a3 := lev_box co_z hT hs hf (by omega) (lo := -65536) (hi := 65536) (fun p hp => by have := hf p hp; unfold InP at this; omega) p hp
    unfold InP
    omega
  have hzl : (t.es.zip sh).length ≤ t.es.length := by rw [List.length_zip]; omega
  refine ⟨hsurf, fun t2 h2 => ?_, hin, h4, fun p hp => ?_, fun x hx y hy => ?_, fun p hp => ?_, ?_⟩
  · rw [hvi] at h2
    exact fine_sharp hT h2 sh
  · have := hin p hp
    unfold InP at this; unfold I3 i64B; omega
  · have := hsurf.1.corner_rng hx hy
    unfold i64B; omega
  · obtain ⟨i, hi, s, h1, h2⟩ := restP_mem _ _ 0 p hp
    have hi1 : i < t.es.length := by omega
    have hr := edge_rng hT (List.getElem_mem hi1)
    have hi2 : i < sh.length := by rw [List.length_zip] at hi; omega
    rw [List.getElem_zip] at h1 h2
    have hsb := lessS_i64 (sharpP_i64 hi3 hs _ (List.getElem_mem hi2)) h1
    rcases h2 with rfl | rfl <;> (unfold I3; simp only; unfold i64B at *; omega)
  · have h5 := quads_tot h4
    have h6 := restP_len (c.vs.length : Int) (t.es.zip sh) 0
    have h7 : (levC c t sh).ks.length = (restP (c.vs.length : Int) 0 (t.es.zip sh)).length := rfl
    omega
end Go.Proofs.Ytpdnaceggpdleab
