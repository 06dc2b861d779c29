/- Package relievoref13: a spot's number; two spots compared. Package relievoref13: Weave, its list of spots. Package relievoref13: Weave, up to its list of spots. Package weave: what Weave answers, by the rates alone; the square that the document fixes. Arguments opened: arrays of four numbers. The last step of a law's row: it answered true, and all that was there is as it was. No program is imported. -/
import Derived.RegionTactic
import Derived.BigRegion
import Derived.ProofKit
import Derived.OpenShut
import Derived.Carry
import Derived.Test.YtpdnaceggpdleaaC0
import Derived.Test.YtpdnaceggpdleaaC3
namespace Go.Proofs.Ytpdnaceggpdleaa
open Go.RowKit
set_option linter.unusedVariables false
set_option linter.unusedSimpArgs false
set_option linter.unnecessarySimpa false
set_option maxRecDepth 100000
theorem quiet_byW {P : Program} {ops : Array Oper} {C : World → Prop} {Q : Act → Prop} {o : Oper} {rest : List Oper} {a : Act} (hg : Region.wanted o (yielded ops a.tmps) = true) (v : Value) (h : ∀ u, C u → (execOp a.eval o).run P u = .ok (.value v) u)
    (k : wpQuiet P ops C Q rest (a.put o.dst v)) : wpQuiet P ops C Q (o :: rest) a := by
  unfold wpQuiet
  rw [if_pos hg]
  exact ⟨v, fun u hu => by unfold Oper.quietAt; rw [h u hu]; exact ⟨rfl, rfl⟩, k⟩
theorem litW (n : Nat) {a : Int} (h : i64W a) : Try.prog.keyLits (n + 1) 3 [.int .i64 a] = some [.int .i64 a] := by
  unfold Program.keyLits
  rw [Try.underlying3]
  simp [h.wf]
def lits3 (s : Spt) : List Lit := [.int .i64 s.1, .int .i64 s.2.1, .int .i64 s.2.2]
theorem lits3_inj {s u : Spt} : lits3 s = lits3 u ↔ s = u := by
  obtain ⟨a, b, c⟩ := s
  obtain ⟨d, e, f⟩ := u
  simp [lits3]
theorem formS (s : Spt) : (sV s).formed Try.prog 29 = true := by rfl
theorem litsSp {s : Spt} (h : rngS s) : Try.prog.keyLits 12 29 (sV s).cells.toList = some (lits3 s) := by
  obtain ⟨h1, h2, h3⟩ := h
  have c0 := litW 10 h1
  have c1 := litW 10 h2
  have c2 := litW 10 h3
  have ci : Try.prog.cellsOf 3 = 1 := by kernel_rfl
  have cs : Try.prog.cellsOf 29 = 3 := by kernel_rfl
  unfold Program.keyLits
  rw [Try.underlying29]
  simp [cs, ci, List.range_succ, Value.cells, c0, c1, c2, lits3]
theorem eqS (s u : Spt) (hs : rngS s) (hu : rngS u) (w : World) : (binOp .eql 29 (sV s) (sV u)).run Try.prog w = .ok (.bool (decide (s = u))) w := by
  obtain ⟨r, hr, hi⟩ := run_equalIn_deep (P := Try.prog) 9990 10 29 (by kernel_rfl) w 12 12 _ _ _ _ (formS s) (formS u) (litsSp hs) (litsSp hu)
  rw [lits3_inj] at hi
  have e : r = decide (s = u) := by
    by_cases h : s = u
    · rw [hi.2 h, decide_eq_true h]
    · cases r with
      | true => exact absurd (hi.1 rfl) h
      | false => rw [decide_eq_false h]
  subst e
  rw [run_eql_struct, hr]
  rfl
theorem neS (s u : Spt) (hs : rngS s) (hu : rngS u) (w : World) : (binOp .neq 29 (sV s) (sV u)).run Try.prog w = .ok (.bool (!decide (s = u))) w := by
  obtain ⟨r, hr, hi⟩ := run_equalIn_deep (P := Try.prog) 9990 10 29 (by kernel_rfl) w 12 12 _ _ _ _ (formS s) (formS u) (litsSp hs) (litsSp hu)
  rw [lits3_inj] at hi
  have e : r = decide (s = u) := by
    by_cases h : s = u
    · rw [hi.2 h, decide_eq_true h]
    · cases r with
      | true => exact absurd (hi.1 rfl) h
      | false => rw [decide_eq_false h]
  subst e
  rw [run_neq_struct, hr]
  rfl
theorem quiet_eqS {ops : Array Oper} {C : World → Prop} {Q : Act → Prop} {o : Oper} {rest : List Oper} {a : Act} (x y : Operand) (ho : o.op = .binOp .eql 29 x y 29) (hg : Region.wanted o (yielded ops a.tmps) = true) (s u : Spt) (hx : a.eval x = sV s) (hy : a.eval y = sV u) (hs : rngS s) (hu : rngS u)
    (K : wpQuiet Try.prog ops C Q rest (a.put o.dst (.bool (decide (s = u))))) : wpQuiet Try.prog ops C Q (o :: rest) a :=
  quiet_byW hg _ (fun w _ => by
    have := eqS s u hs hu w
    have hg := run_eqGuard_agg (P := Try.prog) (w := w) .eql 29 x y #[.int .i64 s.1, .int .i64 s.2.1, .int .i64 s.2.2] #[.int .i64 u.1, .int .i64 u.2.1, .int .i64 u.2.2] (by kernel_rfl)
    unfold execOp
    simp only [ho, hx, hy, Sem.run_bind, hg, this, Result.andThen_ok, Sem.run_pure]) K
theorem quiet_neS {ops : Array Oper} {C : World → Prop} {Q : Act → Prop} {o : Oper} {rest : List Oper} {a : Act} (x y : Operand) (ho : o.op = .binOp .neq 29 x y 29) (hg : Region.wanted o (yielded ops a.tmps) = true) (s u : Spt) (hx : a.eval x = sV s) (hy : a.eval y = sV u) (hs : rngS s) (hu : rngS u)
    (K : wpQuiet Try.prog ops C Q rest (a.put o.dst (.bool (!decide (s = u))))) : wpQuiet Try.prog ops C Q (o :: rest) a :=
  quiet_byW hg _ (fun w _ => by
    have := neS s u hs hu w
    have hg := run_eqGuard_agg (P := Try.prog) (w := w) .neq 29 x y #[.int .i64 s.1, .int .i64 s.2.1, .int .i64 s.2.2] #[.int .i64 u.1, .int .i64 u.2.1, .int .i64 u.2.2] (by kernel_rfl)
    unfold execOp
    simp only [ho, hx, hy, Sem.run_bind, hg, this, Result.andThen_ok, Sem.run_pure]) K
theorem nof_first : ∀ {l : List Spt} {s : Spt} {k : Nat}, l[k]? = some s → (∀ j, j < k → l[j]? ≠ some s) → nof l s = k
  | [], s, k, h, _ => by simp at h
  | q :: l, s, 0, h, _ => by simp at h; simp [nof, h]
  | q :: l, s, k + 1, h, hn => by
    have h0 := hn 0 (by omega)
    unfold nof
    rw [if_neg (fun e => h0 (by simp [e]))]
    rw [nof_first (l := l) (k := k) (by simpa using h) (fun j hj => by have := hn (j + 1) (by omega); simpa using this)]
theorem L3.at_ {W : World} {A : Option Addr} {l : List Spt} (h : L3 W A l) (i : Nat) (hi : i < l.length) : ∃ b off, A = some ⟨b, off, none⟩ ∧ b < W.heap.size ∧ W.cell? ⟨b, off + i * 3, none⟩ = some (.int .i64 l[i].1) ∧ W.cell? ⟨b, off + i * 3 + 1, none⟩ = some (.int .i64 l[i].2.1) ∧ W.cell? ⟨b, off + i * 3 + 2, none⟩ = some (.int .i64 l[i].2.2) := by
  obtain ⟨b, off, e, hl, hc⟩ := h (by omega)
  exact ⟨b, off, e, hl, hc i hi⟩
set_option maxHeartbeats 2000000 in
theorem number_any (W : World) (A : Option Addr) (c : Nat) (l : List Spt) (s : Spt) (hL : L3 W A l) (hl : l.length < 100000) (hs : s ∈ l) (hr : ∀ x ∈ l, rngS x) :
    Calls Try.prog 17 #[.slice A l.length c, sV s] W fun e W' => e = .returned (.int .i64 (nof l s : Int)) ∧ Below W.heap.size W W' := by
  have hb0 : Below W.heap.size W (W.alloc (.cells (spCells s) 29)) := bel_alloc (Below.refl _ _) _
  have hD0 : Blk (W.alloc (.cells (spCells s) 29)) W.heap.size 29 (spCells s) := Blk.new _ _ _ _ rfl
  have hrs := hr s hs
  replace hs := Lib.hid hs
  replace hr := Lib.hid hr
  replace hrs := Lib.hid hrs
  go_enter Try.func17, Try.ntmps17
  go_upto_region 1 with (fail)
  generalize W.alloc (.cells (spCells s) 29) = w0 at *
  go_wp2
  go_loopw [5] (fun iv wr => ∃ k : Nat, iv = .int .i64 (k : Int) ∧ k ≤ l.length ∧ Hid (∀ j, j < k → l[j]? ≠ some s) ∧ Blk wr W.heap.size 29 (spCells s) ∧ Below W.heap.size W wr) (fun iv _ => l.length - (intOf iv).toNat)
  case atStart => exact ⟨0, rfl, by omega, Lib.hid fun j hj => by omega, hD0, hb0⟩
  case round =>
    obtain ⟨k, rfl, hk, hno, hD, hb⟩ := hrel
    by_cases hlt : k < l.length
    · obtain ⟨b, off, rfl, hbl, c0, c1, c2⟩ := (hL.below hb).at_ k hlt
      have hmem := List.getElem_mem hlt
      have hget : l[k]? = some l[k] := List.getElem?_eq_getElem hlt
      have hrk := hr.out _ hmem
      replace hget := Lib.hid hget
      generalize l[k] = p at *
      have q0 : (0 : Int) ≤ (k : Int) := by omega
      have q1 : (k : Int) < (l.length : Int) := by omega
      have d0 : wr.cell? ⟨W.heap.size, 0, none⟩ = some (.int .i64 s.1) := hD.cell 0
      have d1 : wr.cell? ⟨W.heap.size, 1, none⟩ = some (.int .i64 s.2.1) := hD.cell 1
      have d2 : wr.cell? ⟨W.heap.size, 2, none⟩ = some (.int .i64 s.2.2) := hD.cell 2
      have lb := hD.lt
      clear hb0 hD0 hmem
      by_cases heq : p = s
      · subst heq
        have hfin : nof l p = k := nof_first hget.out hno.out
        replace hfin := Lib.hid hfin
        go_upto_region 4 with (fail)
        refine wp_region_grow (by kernel_rfl) (by kernel_rfl) ?_
        repeat (go_big_quiet_step (((fail))))
        refine wpQuiet_nil ?_
        rintro _ ⟨xg, rfl⟩
        have hDx := hb.size
        go_wp2
        go_ret
        exact ⟨by rw [hfin.out]; rfl, bel_grow hb xg⟩
      · have hd : decide (p = s) = false := decide_eq_false heq
        have hno2 : ∀ j, j < k + 1 → l[j]? ≠ some s := fun j hj => by
          by_cases e : j = k
          · subst e; rw [hget.out]; simpa using heq
          · exact hno.out j (by omega)
        replace hno2 := Lib.hid hno2
        replace heq := Lib.hid heq
        go_upto_region 4 with (fail)
        refine wp_region_grow (by kernel_rfl) (by kernel_rfl) ?_
        repeat (first | (refine quiet_eqS _ _ rfl rfl p s rfl rfl hrk hrs.out ?_; rw [hd]) | go_big_quiet_step ((fail)))
        refine wpQuiet_nil ?_
        rintro _ ⟨xg, rfl⟩
        have hDx := hD.grow xg
        have hbx := bel_grow hb xg
        generalize grow wr xg = w5 at *
        go_wp2
        go_roundw
        case rel => exact ⟨k + 1, by go_num, by omega, hno2, hDx, hbx⟩
        case measure => simp [intOf]; omega
    · exfalso
      obtain rfl : k = l.length := by omega
      obtain ⟨i, hi, e⟩ := List.getElem_of_mem hs.out
      exact hno.out i hi (by rw [List.getElem?_eq_getElem hi, e])
end Go.Proofs.Ytpdnaceggpdleaa
namespace Go.Proofs.Ytpdnaceggpdleaa
open Go.RowKit
set_option linter.unusedVariables false
set_option linter.unusedSimpArgs false
set_option linter.unnecessarySimpa false
set_option maxRecDepth 100000
theorem bel_ownW {a W W' : World} {row : Option Nat} (h : Below a.heap.size a W) (hg : W.grownBy W' row) (hB : ∀ k, row = some k → a.heap.size ≤ k) : Below a.heap.size a W' :=
  h.trans ⟨hg.os, hg.tape, hg.output, hg.size, fun k hk => hg.block k (Nat.lt_of_lt_of_le hk h.size) (by intro e; have := hB k e.symm; omega)⟩
theorem own_nilW (W : World) (base : Nat) (T : TypeId) (h : base ≤ W.heap.size) : (W.alloc (.cells #[] T)).ownsRow base T 3 (.slice (some ⟨W.heap.size, 0, none⟩) 0 0) 0 [] :=
  ⟨rfl, .inr ⟨W.heap.size, 0, #[], rfl, h, heap_alloc_new _ _, Nat.le_refl _, by unfold maxLen; omega, rfl, rfl⟩⟩
theorem spC_one (l : List Spt) : ∀ u ∈ spC l, u.oneCell' = true := fun u hu => by
  unfold spC at hu
  obtain ⟨s, _, h⟩ := List.mem_flatMap.1 hu
  simp at h
  rcases h with rfl | rfl | rfl <;> rfl
theorem spC_app (l m : List Spt) : spC (l ++ m) = spC l ++ spC m := by simp [spC, List.flatMap_append]
/-- Triples appended to a row of one's own: what append answers, and what is there. -/
theorem appL {T TS : TypeId} (hT : Try.prog.underlying TS = some (.slice T)) (hI : (Try.prog.info? T).map (fun i => (i.zero, i.size, i.bytes)) = some (some (.agg #[.int .i64 0, .int .i64 0, .int .i64 0]), 3, 24)) {a0 W : World} (hb : Below a0.heap.size a0 W) {P : List Spt} {v : Value} (h : W.ownsRow a0.heap.size T 3 v P.length (spC P)) (hn : P.length < 1000000) (l : List Spt) (hl : l.length < 1000) (ty : TypeId) :
    ∃ A c u2, (Builtin.append_ #[TS, TS] ty #[v, .slice (some ⟨W.heap.size, 0, none⟩) l.length l.length]).run Try.prog (W.alloc (.cells (spC l).toArray T)) = .ok (.slice A (P.length + l.length) c) u2 ∧ u2.ownsRow a0.heap.size T 3 (.slice A (P.length + l.length) c) (P ++ l).length (spC (P ++ l)) ∧ Below a0.heap.size a0 u2 := by
  obtain ⟨i0, hi0, hz0, hz1, hz2⟩ := info_ofW hI
  have hb1 : Below W.heap.size W (W.alloc (.cells (spC l).toArray T)) := bel_alloc (Below.refl _ _) _
  have hN := Blk.new W T (spC l).toArray _ rfl
  have hsz := hb.size
  obtain ⟨v', u2, hr, h1, h2, h3, h4⟩ := run_append_own_at (P := Try.prog) (w := W.alloc (.cells (spC l).toArray T)) a0.heap.size TS ty T i0 _ 3 24 hT hi0 hz0 hz1 hz2 rfl (by omega) v P.length (spC P) (ownW_lay h hb1) ⟨W.heap.size, 0, none⟩ l.length l.length (spC l) (spC_len l)
    (fun j u hj => by
      have e : ((⟨W.heap.size, 0, none⟩ : Addr).add j) = ⟨W.heap.size, j, none⟩ := by simp [Addr.add]; intro h; exact h.symm
      rw [e, hN.cell]
      simpa using hj) (spC_one l) (by unfold maxLen; omega) (by omega) (Nat.le_trans hsz hb1.size)
  obtain ⟨A, c, rfl⟩ := ownW_form h1
  refine ⟨A, c, u2, hr, ?_, bel_ownW (bel_trans hb hb1) h2 (fun k e => (ownW_block h k e).1)⟩
  rw [List.length_append, spC_app]
  exact h1
section
variable {ops : Array Oper} {rest : List Oper} {o : Oper} {a : Act} {Q : Exit → Act → World → Prop}
theorem wpL_appL {T TS : TypeId} (hT : Try.prog.underlying TS = some (.slice T)) (hI : (Try.prog.info? T).map (fun i => (i.zero, i.size, i.bytes)) = some (some (.agg #[.int .i64 0, .int .i64 0, .int .i64 0]), 3, 24)) (a0 W : World) (hb : Below a0.heap.size a0 W) (P : List Spt) (v : Value) (h : W.ownsRow a0.heap.size T 3 v P.length (spC P)) (hn : P.length < 1000000) (l : List Spt) (hl : l.length < 1000)
    (hg : o.guard = none) (x y : Operand) (ho : o.op = .call { callee := .builtin .append, args := #[x, y], argTypes := #[TS, TS] }) (hx : a.eval x = v) (hy : a.eval y = .slice (some ⟨W.heap.size, 0, none⟩) l.length l.length) (w : World) (hw : w = W.alloc (.cells (spC l).toArray T))
    (K : ∀ A c u2, u2.ownsRow a0.heap.size T 3 (.slice A (P ++ l).length c) (P ++ l).length (spC (P ++ l)) → Below a0.heap.size a0 u2 → wpList Try.prog ops Q rest (a.put o.dst (.slice A (P ++ l).length c)) u2) : wpList Try.prog ops Q (o :: rest) a w := by
  subst hw
  obtain ⟨A, c, u2, hr, h1, h2⟩ := appL hT hI hb h hn l hl o.type
  refine wpList_plain hg fun K' hK' => ?_
  unfold Oper.wp
  rw [run_appW x y TS ho hx hy hr]
  refine hK' _ _ ?_
  have := K A c u2 (by rw [List.length_append] at h1 ⊢; exact h1) h2
  rw [List.length_append] at this
  exact this
end
end Go.Proofs.Ytpdnaceggpdleaa
namespace Go.Proofs.Ytpdnaceggpdleaa
open Go.RowKit
set_option linter.unusedVariables false
set_option linter.unusedSimpArgs false
set_option linter.unnecessarySimpa false
set_option maxRecDepth 100000
/-- The document's row of triangles, as it grows behind the world a1. -/
structure Dc (a1 w : World) (A : Option Addr) (c : Nat) (Z : List Spt) : Prop where
  bel : Below a1.heap.size a1 w
  own : w.ownsRow a1.heap.size 30 3 (.slice A Z.length c) Z.length (spC Z)
theorem Dc.lay {a1 w w' : World} {A : Option Addr} {c : Nat} {Z : List Spt} (h : Dc a1 w A c Z) (hb : Below w.heap.size w w') : Dc a1 w' A c Z := ⟨bel_trans h.bel hb, ownW_lay h.own hb⟩
theorem Dc.grow {a1 w : World} {A : Option Addr} {c : Nat} {Z : List Spt} (h : Dc a1 w A c Z) (x : More) : Dc a1 (Go.Proofs.Ytpdnaceggpdleaa.grow w x) A c Z := h.lay (x.kept w)
def mapZ (l : List NTri) : List Spt := l.map trZ
theorem mapZ_app (l m : List NTri) : mapZ (l ++ m) = mapZ l ++ mapZ m := by simp [mapZ]
theorem mapZ_len (l : List NTri) : (mapZ l).length = l.length := by simp [mapZ]
theorem rng_spots {r : Nat → Nat} {R : Nat} (hr : ∀ k, k < 4 → 1 ≤ r k ∧ r k ≤ 16) (hR : R ≤ 16) : ∀ x ∈ spotsR r R, rngS x := fun x hx => by
  rcases mem_spots.1 hx with ⟨k, h1, rfl⟩ | ⟨k, i, h1, h2, h3, rfl⟩ | ⟨a, b, h1, h2, h3, h4, rfl⟩
  · exact rng_cor h1
  · exact rng_edg h1 (by have := (hr k h1).2; omega)
  · exact rng_inn (by omega) (by omega)
theorem nof_cor (r : Nat → Nat) (R : Nat) {k : Nat} (hk : k < 4) : nof (spotsR r R) (corS k) = k := by
  refine nof_at (spots_nodup r R) ?_
  rcases four1 hk with rfl | rfl | rfl | rfl <;> rfl
theorem max_if (a b : Int) : (if a < b then b else a) = max a b := by split <;> omega
set_option maxHeartbeats 4000000 in
theorem rweave_any (W : World) (q : Nat → Int) (hq : ∀ k, k < 4 → i64W (q k)) :
    Calls Try.prog 10 #[.agg (q4C q)] W fun e W' => Below W.heap.size W W' ∧ WvA W' q e spotsW trisW := by
  obtain ⟨w0, hw0⟩ : ∃ w0, w0 = W.alloc (.cells (q4C q) 22) := ⟨_, rfl⟩
  have hb0 : Below W.heap.size W w0 := by rw [hw0]; exact bel_alloc (Below.refl _ _) _
  have hQ0 : Blk w0 W.heap.size 22 (q4C q) := by rw [hw0]; exact Blk.new _ _ _ _ rfl
  have hq0 := hq 0 (by omega)
  have hq1 := hq 1 (by omega)
  have hq2 := hq 2 (by omega)
  have hq3 := hq 3 (by omega)
  unfold i64W at hq0 hq1 hq2 hq3
  go_enter Try.func10, Try.ntmps10
  go_upto_region 1 with (fail)
  simp only [← hw0]
  clear hw0
  obtain ⟨bq, hbq⟩ : ∃ b, b = W.heap.size := ⟨_, rfl⟩
  rw [← hbq] at hQ0 ⊢
  replace hbq := Lib.hid hbq
  go_wp2
  go_loopw [6, 5] (fun kv mv wr => ∃ k : Nat, kv = .int .i64 (k : Int) ∧ mv = .int .i64 (mxI q k) ∧ k ≤ 4 ∧ (∀ j, j < k → 1 ≤ q j ∧ q j ≤ 16) ∧ Blk wr bq 22 (q4C q) ∧ Below W.heap.size W wr) (fun kv _ _ => 4 - (intOf kv).toNat)
  case atStart => exact ⟨0, rfl, rfl, by omega, fun j hj => by omega, hQ0, hb0⟩
  case round =>
    obtain ⟨k, rfl, rfl, hk, hok, hQ, hb⟩ := hrel
    by_cases hk4 : k < 4
    · have hm := mxI_bd k hok
      have hok2 := Lib.hid hok
      clear hok
      have lq := hQ.lt
      rcases four1 hk4 with rfl | rfl | rfl | rfl
      · have e2 : (if mxI q 0 < q 0 then q 0 else mxI q 0) = mxI q 1 := by
          show _ = max (mxI q 0) (q 0)
          split <;> omega
        replace e2 := Lib.hid e2
        rw [show ((0 : Nat) : Int) = 0 from rfl]
        generalize mxI q 0 = m at *
        have cq : wr.cell? ⟨bq, 0, none⟩ = some (.int .i64 (q 0)) := hQ.cell 0
        have hbad : (q 0 < 1 ∨ q 0 > 16) → ¬ okQ q := fun h hq9 => by have := hq9 0 (by omega); omega
        replace hbad := Lib.hid hbad
        by_cases hlo : q 0 < 1
        · go_wp2
          refine bodyPost_ret (v := .tuple #[.slice none 0 0, .slice none 0 0, .bool false]) (by simp [results, Try.results10, go_sem]) rfl ⟨hb, .inr ⟨hbad.out (.inl hlo), rfl⟩⟩
        · by_cases hhi : q 0 > 16
          · go_wp2
            refine bodyPost_ret (v := .tuple #[.slice none 0 0, .slice none 0 0, .bool false]) (by simp [results, Try.results10, go_sem]) rfl ⟨hb, .inr ⟨hbad.out (.inr hhi), rfl⟩⟩
          · go_wp2
            rw [e2.out]
            go_roundw
            case rel =>
              refine ⟨1, by go_num, rfl, by omega, fun j hj => ?_, hQ, hb⟩
              by_cases e : j = 0
              · subst e; omega
              · exact hok2.out j (by omega)
            case measure => simp [intOf]
      · have e2 : (if mxI q 1 < q 1 then q 1 else mxI q 1) = mxI q 2 := by
          show _ = max (mxI q 1) (q 1)
          split <;> omega
        replace e2 := Lib.hid e2
        rw [show ((1 : Nat) : Int) = 1 from rfl]
        generalize mxI q 1 = m at *
        have cq : wr.cell? ⟨bq, 1, none⟩ = some (.int .i64 (q 1)) := hQ.cell 1
        have hbad : (q 1 < 1 ∨ q 1 > 16) → ¬ okQ q := fun h hq9 => by have := hq9 1 (by omega); omega
        replace hbad := Lib.hid hbad
        by_cases hlo : q 1 < 1
        · go_wp2
          refine bodyPost_ret (v := .tuple #[.slice none 0 0, .slice none 0 0, .bool false]) (by simp [results, Try.results10, go_sem]) rfl ⟨hb, .inr ⟨hbad.out (.inl hlo), rfl⟩⟩
        · by_cases hhi : q 1 > 16
          · go_wp2
            refine bodyPost_ret (v := .tuple #[.slice none 0 0, .slice none 0 0, .bool false]) (by simp [results, Try.results10, go_sem]) rfl ⟨hb, .inr ⟨hbad.out (.inr hhi), rfl⟩⟩
          · go_wp2
            rw [e2.out]
            go_roundw
            case rel =>
              refine ⟨2, by go_num, rfl, by omega, fun j hj => ?_, hQ, hb⟩
              by_cases e : j = 1
              · subst e; omega
              · exact hok2.out j (by omega)
            case measure => simp [intOf]
      · have e2 : (if mxI q 2 < q 2 then q 2 else mxI q 2) = mxI q 3 := by
          show _ = max (mxI q 2) (q 2)
          split <;> omega
        replace e2 := Lib.hid e2
        rw [show ((2 : Nat) : Int) = 2 from rfl]
        generalize mxI q 2 = m at *
        have cq : wr.cell? ⟨bq, 2, none⟩ = some (.int .i64 (q 2)) := hQ.cell 2
        have hbad : (q 2 < 1 ∨ q 2 > 16) → ¬ okQ q := fun h hq9 => by have := hq9 2 (by omega); omega
        replace hbad := Lib.hid hbad
        by_cases hlo : q 2 < 1
        · go_wp2
          refine bodyPost_ret (v := .tuple #[.slice none 0 0, .slice none 0 0, .bool false]) (by simp [results, Try.results10, go_sem]) rfl ⟨hb, .inr ⟨hbad.out (.inl hlo), rfl⟩⟩
        · by_cases hhi : q 2 > 16
          · go_wp2
            refine bodyPost_ret (v := .tuple #[.slice none 0 0, .slice none 0 0, .bool false]) (by simp [results, Try.results10, go_sem]) rfl ⟨hb, .inr ⟨hbad.out (.inr hhi), rfl⟩⟩
          · go_wp2
            rw [e2.out]
            go_roundw
            case rel =>
              refine ⟨3, by go_num, rfl, by omega, fun j hj => ?_, hQ, hb⟩
              by_cases e : j = 2
              · subst e; omega
              · exact hok2.out j (by omega)
            case measure => simp [intOf]
      · have e2 : (if mxI q 3 < q 3 then q 3 else mxI q 3) = mxI q 4 := by
          show _ = max (mxI q 3) (q 3)
          split <;> omega
        replace e2 := Lib.hid e2
        rw [show ((3 : Nat) : Int) = 3 from rfl]
        generalize mxI q 3 = m at *
        have cq : wr.cell? ⟨bq, 3, none⟩ = some (.int .i64 (q 3)) := hQ.cell 3
        have hbad : (q 3 < 1 ∨ q 3 > 16) → ¬ okQ q := fun h hq9 => by have := hq9 3 (by omega); omega
        replace hbad := Lib.hid hbad
        by_cases hlo : q 3 < 1
        · go_wp2
          refine bodyPost_ret (v := .tuple #[.slice none 0 0, .slice none 0 0, .bool false]) (by simp [results, Try.results10, go_sem]) rfl ⟨hb, .inr ⟨hbad.out (.inl hlo), rfl⟩⟩
        · by_cases hhi : q 3 > 16
          · go_wp2
            refine bodyPost_ret (v := .tuple #[.slice none 0 0, .slice none 0 0, .bool false]) (by simp [results, Try.results10, go_sem]) rfl ⟨hb, .inr ⟨hbad.out (.inr hhi), rfl⟩⟩
          · go_wp2
            rw [e2.out]
            go_roundw
            case rel =>
              refine ⟨4, by go_num, rfl, by omega, fun j hj => ?_, hQ, hb⟩
              by_cases e : j = 3
              · subst e; omega
              · exact hok2.out j (by omega)
            case measure => simp [intOf]
    · obtain rfl : k = 4 := by omega
      have hoq : okQ q := hok
      obtain ⟨r, hr⟩ : ∃ r : Nat → Nat, r = fun k => (q k).toNat := ⟨_, rfl⟩
      have hqr : ∀ k, k < 4 → q k = (r k : Int) := fun k hk => by
        have := hok k hk
        rw [hr]
        simp only
        omega
      have hrb : ∀ k, k < 4 → 1 ≤ r k ∧ r k ≤ 16 := fun k hk => by
        have h1 := hok k hk
        have h2 := hqr k hk
        omega
      have hmx := mxI_nat 4 hqr
      have hR2 : mxR r 4 ≤ 16 := mxR_le 4 (fun k hk => (hrb k hk).2)
      have hR1 : 1 ≤ mxR r 4 := by
        have h0 := (hrb 3 (by omega)).1
        show 1 ≤ max (mxR r 3) (r 3)
        omega
      rw [hmx]
      clear hok hr hmx
      have hQr : ∀ k, k < 4 → wr.cell? ⟨bq, k, none⟩ = some (.int .i64 (r k : Int)) := fun k hk => by
        rw [← hqr k hk, hQ.cell]
        rcases four1 hk with rfl | rfl | rfl | rfl <;> rfl
      have lbq := hQ.lt
      replace hoq := Lib.hid hoq
      replace hqr := Lib.hid hqr
      replace hrb := Lib.hid hrb
      replace hQr := Lib.hid hQr
      clear hq0 hq1 hq2 hq3 hQ0 hb0 hQ
      rw [show ((4 : Nat) : Int) = 4 from rfl]
      obtain ⟨R, hRe⟩ : ∃ R, R = mxR r 4 := ⟨_, rfl⟩
      rw [← hRe] at hR1 hR2 ⊢
      replace hRe := Lib.hid hRe
      have hlenE := edges_len_le hrb.out
      replace hlenE := Lib.hid hlenE
      go_upto_region 9 with (fail)
      have hn0 := own_nilW wr wr.heap.size 29 (Nat.le_refl _)
      have hbn := bel_alloc (Below.refl wr.heap.size wr) (.cells #[] 29)
      generalize wr.alloc (.cells #[] 29) = w8 at *
      obtain ⟨a0, rfl⟩ : ∃ a0, a0 = wr := ⟨_, rfl⟩
      go_wp2
      go_loopw [8, 7] (fun kv lv wr => ∃ (k : Nat) (A : Option Addr) (c : Nat) (P : List Spt), kv = .int .i64 (k : Int) ∧ lv = .slice A P.length c ∧ k ≤ 4 ∧ wr.ownsRow a0.heap.size 29 3 (.slice A P.length c) P.length (spC P) ∧ Hid (P = corsS k) ∧ Below a0.heap.size a0 wr) (fun kv _ _ => 4 - (intOf kv).toNat)
      case atStart => exact ⟨0, _, _, [], rfl, rfl, by omega, hn0, Lib.hid rfl, hbn⟩
      case round =>
        obtain ⟨k, A, c, P, rfl, rfl, hk, hown, hP, hbx⟩ := hrel
        by_cases hk4 : k < 4
        · have q9 : (k : Int) < 4 := by omega
          have hlen : P.length < 1000000 := by rw [hP.out, cors_len]; omega
          go_wp2_with (first | (at_builtin; (refine wpL_appL Try.underlying24 infoSp a0 _ (hbx) P _ (hown) hlen ([corS k]) (by simp) rfl _ _ rfl rfl rfl _ rfl ?_); intro A2 c2 u2 hown2 hb2) | fail)
          go_roundw
          case rel => exact ⟨k + 1, A2, c2, P ++ [corS k], by go_num, by simp, by omega, hown2, Lib.hid (by rw [hP.out]; rfl), hb2⟩
          case measure => simp [intOf]; omega
        · obtain rfl : k = 4 := by omega
          rw [show ((4 : Nat) : Int) = 4 from rfl]
          clear hn0 hbn
          go_upto_region 13 with (fail)
          go_wp2
          go_loopw [9, 7] (fun kv lv wr => ∃ (k : Nat) (A : Option Addr) (c : Nat) (P : List Spt), kv = .int .i64 (k : Int) ∧ lv = .slice A P.length c ∧ k ≤ 4 ∧ wr.ownsRow a0.heap.size 29 3 (.slice A P.length c) P.length (spC P) ∧ Hid (P = corsS 4 ++ edgesS r k) ∧ Below a0.heap.size a0 wr) (fun kv _ _ => 4 - (intOf kv).toNat)
          case atStart => exact ⟨0, A, c, P, rfl, rfl, by omega, hown, Lib.hid (by rw [hP.out]; simp [edgesS, upTo]), hbx⟩
          case round =>
            clear hown hbx hP
            obtain ⟨k, A, c, P, rfl, rfl, hk, hown, hP, hbx⟩ := hrel
            by_cases hk4 : k < 4
            · have q9 : (k : Int) < 4 := by omega
              have q0 : (0 : Int) ≤ (k : Int) := by omega
              have hrk := hrb.out k hk4
              go_upto_region 16 with (fail)
              go_wp2
              go_loopw [10, 7] (fun iv lv wr => ∃ (i : Nat) (A : Option Addr) (c : Nat) (P : List Spt), iv = .int .i64 ((i : Int) + 1) ∧ lv = .slice A P.length c ∧ i + 1 ≤ r k ∧ wr.ownsRow a0.heap.size 29 3 (.slice A P.length c) P.length (spC P) ∧ Hid (P = corsS 4 ++ edgesS r k ++ edgeS k i) ∧ Below a0.heap.size a0 wr) (fun iv _ _ => 20 - (intOf iv).toNat)
              case atStart => exact ⟨0, A, c, P, rfl, rfl, by omega, hown, Lib.hid (by rw [hP.out]; simp [edgeS, upTo]), hbx⟩
              case round =>
                clear hown hbx hP
                obtain ⟨i, A, c, P, rfl, rfl, hi, hown, hP, hbx⟩ := hrel
                have cr : wr.cell? ⟨bq, k, none⟩ = some (.int .i64 (r k : Int)) := (hbx.cell (p := ⟨bq, k, none⟩) lbq).trans (hQr.out k hk4)
                have lbx : bq < wr.heap.size := Nat.lt_of_lt_of_le lbq hbx.size
                by_cases hlt : i + 1 < r k
                · have hlen : P.length < 1000000 := by
                    rw [hP.out, List.length_append, List.length_append, cors_len, edge_len]
                    have := hlenE.out k hk
                    omega
                  have q3 : (i : Int) + 1 < (r k : Int) := by omega
                  go_wp2_with (first | (at_builtin; (refine wpL_appL Try.underlying24 infoSp a0 _ (hbx) P _ (hown) hlen ([edgS k (i + 1)]) (by simp) rfl _ _ rfl rfl rfl _ rfl ?_); intro A2 c2 u2 hown2 hb2) | fail)
                  go_roundw
                  case rel => exact ⟨i + 1, A2, c2, P ++ [edgS k (i + 1)], by go_num, by simp, by omega, hown2, Lib.hid (by rw [hP.out, List.append_assoc]; rfl), hb2⟩
                  case measure => simp [intOf]; omega
                · have e9 : i = r k - 1 := by omega
                  have hP2 : P = corsS 4 ++ edgesS r (k + 1) := by rw [hP.out, e9, List.append_assoc]; rfl
                  have q3 : ¬ ((i : Int) + 1 < (r k : Int)) := by omega
                  replace hP2 := Lib.hid hP2
                  replace e9 := Lib.hid e9
                  go_wp2
                  go_roundw
                  case rel => exact ⟨k + 1, A, c, P, by go_num, rfl, by omega, hown, hP2, hbx⟩
                  case measure => simp [intOf]; omega
            · obtain rfl : k = 4 := by omega
              rw [show ((4 : Nat) : Int) = 4 from rfl]
              have hlen4 := hlenE.out 4 (by omega)
              have kI := rinner_G
              go_upto_region 20 with (fail)
              go_wp2
              go_loopw [11, 7] (fun bv lv wr => ∃ (b : Nat) (A : Option Addr) (c : Nat) (P : List Spt), bv = .int .i64 ((b : Int) + 1) ∧ lv = .slice A P.length c ∧ b + 1 ≤ R ∧ wr.ownsRow a0.heap.size 29 3 (.slice A P.length c) P.length (spC P) ∧ Hid (P = corsS 4 ++ edgesS r 4 ++ rowsS R b) ∧ Below a0.heap.size a0 wr) (fun bv _ _ => 20 - (intOf bv).toNat)
              case atStart => exact ⟨0, A, c, P, rfl, rfl, by omega, hown, Lib.hid (by rw [hP.out]; simp [rowsS, upTo]), hbx⟩
              case round =>
                clear hown hbx hP
                obtain ⟨b, A, c, P, rfl, rfl, hb2, hown, hP, hbx⟩ := hrel
                by_cases hblt : b + 1 < R
                · have q3 : (b : Int) + 1 < (R : Int) := by omega
                  go_upto_region 23 with (fail)
                  go_wp2
                  go_loopw [12, 7] (fun av lv wr => ∃ (a : Nat) (A : Option Addr) (c : Nat) (P : List Spt), av = .int .i64 ((a : Int) + 1) ∧ lv = .slice A P.length c ∧ a + 1 ≤ R ∧ wr.ownsRow a0.heap.size 29 3 (.slice A P.length c) P.length (spC P) ∧ Hid (P = corsS 4 ++ edgesS r 4 ++ rowsS R b ++ rowS b a) ∧ Below a0.heap.size a0 wr) (fun av _ _ => 20 - (intOf av).toNat)
                  case atStart => exact ⟨0, A, c, P, rfl, rfl, by omega, hown, Lib.hid (by rw [hP.out]; simp [rowS, upTo]), hbx⟩
                  case round =>
                    clear hown hbx hP
                    obtain ⟨a, A, c, P, rfl, rfl, ha, hown, hP, hbx⟩ := hrel
                    by_cases halt : a + 1 < R
                    · have hlen : P.length < 1000000 := by
                        rw [hP.out, List.length_append, List.length_append, List.length_append, cors_len, row_len]
                        have := rows_len_le (R := R) (n := b) hR2 (by omega)
                        omega
                      have k2 := kI ((a : Int) + 1) ((b : Int) + 1)
                      have q4 : (a : Int) + 1 < (R : Int) := by omega
                      go_wp2_with (first | (go_at_call 16; (with_reducible refine (k2.at_ _).mono ?_); rintro e w' ⟨rfl, xg, rfl⟩; have hown1 := ownW_lay hown (xg.kept wr); have hbx1 := bel_grow hbx xg) | (at_builtin; (refine wpL_appL Try.underlying24 infoSp a0 _ (hbx1) P _ (hown1) hlen ([innS (a + 1) (b + 1)]) (by simp) rfl _ _ rfl rfl rfl _ rfl ?_); intro A2 c2 u2 hown2 hb2) | fail)
                      go_roundw
                      case rel => exact ⟨a + 1, A2, c2, P ++ [innS (a + 1) (b + 1)], by go_num, by simp, by omega, hown2, Lib.hid (by rw [hP.out, List.append_assoc]; rfl), hb2⟩
                      case measure => simp [intOf]; omega
                    · have e9 : a = R - 1 := by omega
                      have hP2 : P = corsS 4 ++ edgesS r 4 ++ rowsS R (b + 1) := by rw [hP.out, e9, List.append_assoc]; rfl
                      have q4 : ¬ ((a : Int) + 1 < (R : Int)) := by omega
                      replace hP2 := Lib.hid hP2
                      replace e9 := Lib.hid e9
                      go_wp2
                      go_roundw
                      case rel => exact ⟨b + 1, A, c, P, by go_num, rfl, by omega, hown, hP2, hbx⟩
                      case measure => simp [intOf]; omega
                · have e9 : b = R - 1 := by omega
                  have hP2 : P = spotsR r R := by rw [hP.out, e9]; rfl
                  have q3 : ¬ ((b : Int) + 1 < (R : Int)) := by omega
                  replace hP2 := Lib.hid hP2
                  replace e9 := Lib.hid e9
                  go_upto_region 27 with (fail)
                  obtain ⟨a1, rfl⟩ : ∃ a1, a1 = wr := ⟨_, rfl⟩
                  have hL1 : L3 a1 A P := L3_own hown
                  have hcP : P.length ≤ c := by
                    obtain ⟨A0, c0, e0, h0⟩ := own_len hown
                    simp only [Value.slice.injEq] at e0
                    omega
                  have hlP : P.length < 100000 := by
                    rw [hP2.out]
                    unfold spotsR
                    rw [List.length_append, List.length_append, cors_len]
                    have := rows_len_le (R := R) (n := R - 1) hR2 (by omega)
                    omega
                  have hrgP : ∀ x ∈ P, rngS x := by rw [hP2.out]; exact rng_spots hrb.out hR2
                  have hba : Below W.heap.size W a1 := bel_trans hb hbx
                  have lb1 : bq < a1.heap.size := Nat.lt_of_lt_of_le lbq hbx.size
                  have hQ1 : ∀ k, k < 4 → a1.cell? ⟨bq, k, none⟩ = some (.int .i64 (r k : Int)) := fun k hk => (hbx.cell (p := ⟨bq, k, none⟩) lbq).trans (hQr.out k hk)
                  have hsW : spotsW r = P := by unfold spotsW; rw [← hRe.out, hP2.out]
                  have htW : trisW r = numT P (trisR r R) := by unfold trisW; rw [hsW, ← hRe.out]
                  replace hQ1 := Lib.hid hQ1
                  replace hsW := Lib.hid hsW
                  replace htW := Lib.hid htW
                  replace hrgP := Lib.hid hrgP
                  clear hown hP hbx hb lbq hQr e9 q3 hblt hb2
                  by_cases hR9 : R = 1
                  · have e1 : ((R : Int) == 1) = true := by simp; omega
                    have hT1 : trisW r = [(0, 1, 2), (0, 2, 3)] := by
                      rw [htW.out, hR9, hP2.out, hR9]
                      show numT (spotsR r 1) (sqS (corS 0) (corS 1) (corS 2) (corS 3)) = _
                      simp only [numT, sqS, num3, List.map_cons, List.map_nil, nof_cor r 1 (show 0 < 4 by omega), nof_cor r 1 (show 1 < 4 by omega), nof_cor r 1 (show 2 < 4 by omega), nof_cor r 1 (show 3 < 4 by omega)]
                    have hN : Blk (a1.alloc (.cells #[.int .i64 0, .int .i64 1, .int .i64 2, .int .i64 0, .int .i64 2, .int .i64 3] 30)) a1.heap.size 30 #[.int .i64 0, .int .i64 1, .int .i64 2, .int .i64 0, .int .i64 2, .int .i64 3] := Blk.new _ _ _ _ rfl
                    have hbN := bel_alloc (Below.refl a1.heap.size a1) (.cells #[.int .i64 0, .int .i64 1, .int .i64 2, .int .i64 0, .int .i64 2, .int .i64 3] 30)
                    have hL2 : L3 (a1.alloc (.cells #[.int .i64 0, .int .i64 1, .int .i64 2, .int .i64 0, .int .i64 2, .int .i64 3] 30)) (some ⟨a1.heap.size, 0, none⟩) ((trisW r).map trZ) := fun _ => by
                      refine ⟨_, 0, rfl, hN.lt, fun i hi => ?_⟩
                      simp only [hT1] at hi ⊢
                      have hi2 : i < 2 := hi
                      rcases (by omega : i = 0 ∨ i = 1) with rfl | rfl
                      · exact ⟨hN.cell 0, hN.cell 1, hN.cell 2⟩
                      · exact ⟨hN.cell 3, hN.cell 4, hN.cell 5⟩
                    replace hR9 := Lib.hid hR9
                    replace hT1 := Lib.hid hT1
                    go_wp2
                    refine bodyPost_ret (v := .tuple #[.slice A P.length c, .slice (some ⟨a1.heap.size, 0, none⟩) 2 2, .bool true]) (by simp [results, Try.results10, go_sem]) rfl ⟨bel_trans hba hbN, .inl ⟨hoq.out, r, A, some ⟨a1.heap.size, 0, none⟩, c, 2, hqr.out, hrb.out, ?_, ?_, ?_, ?_, hL2⟩⟩
                    · rw [hsW.out, hT1.out]; rfl
                    · rw [hsW.out]; exact hcP
                    · rw [hT1.out]; exact Nat.le_refl _
                    · rw [hsW.out]; exact hL1.below hbN
                  · have e1 : ((R : Int) == 1) = false := by simp; omega
                    have hR3 : 2 ≤ R := by omega
                    have cN : ∀ {At : Option Addr} {ct : Nat} {Z : List Spt} (w : World), Dc a1 w At ct Z → ∀ s, s ∈ P → Calls Try.prog 17 #[.slice A P.length c, sV s] w fun e W' => e = .returned (.int .i64 (nof P s : Int)) ∧ Dc a1 W' At ct Z := fun w D s hs => (number_any w A c P s (hL1.below D.bel) hlP hs hrgP.out).mono fun e W' ⟨h1, h2⟩ => ⟨h1, D.lay h2⟩
                    have hD0 : Dc a1 (a1.alloc (.cells #[] 30)) (some ⟨a1.heap.size, 0, none⟩) 0 [] := ⟨bel_alloc (Below.refl _ _) _, own_nilW a1 a1.heap.size 30 (Nat.le_refl _)⟩
                    have hmI : ∀ {a b : Nat}, 1 ≤ a → a < R → 1 ≤ b → b < R → innS a b ∈ P := fun h1 h2 h3 h4 => by rw [hP2.out]; exact inn_in h1 h2 h3 h4
                    replace hR9 := Lib.hid hR9
                    go_upto_region 30 with (fail)
                    generalize a1.alloc (.cells #[] 30) = w29 at *
                    go_wp2
                    go_loopw [14, 13] (fun bv tv wr => ∃ (b : Nat) (At : Option Addr) (ct : Nat) (Z : List Spt), bv = .int .i64 ((b : Int) + 1) ∧ tv = .slice At Z.length ct ∧ b + 2 ≤ R ∧ Hid (Z = mapZ (numT P (sqRows R b))) ∧ Dc a1 wr At ct Z) (fun bv _ _ => 20 - (intOf bv).toNat)
                    case atStart => exact ⟨0, _, _, [], rfl, rfl, by omega, Lib.hid rfl, hD0⟩
                    case round =>
                      clear hD0
                      obtain ⟨b, At, ct, Z, rfl, rfl, hb, hZ, D⟩ := hrel
                      by_cases hblt : b + 1 < R - 1
                      · have q3 : (b : Int) + 1 < (R : Int) - 1 := by omega
                        go_upto_region 33 with (fail)
                        go_wp2
                        go_loopw [15, 13] (fun av tv wr => ∃ (a : Nat) (At : Option Addr) (ct : Nat) (Z : List Spt), av = .int .i64 ((a : Int) + 1) ∧ tv = .slice At Z.length ct ∧ a + 2 ≤ R ∧ Hid (Z = mapZ (numT P (sqRows R b ++ sqRow b a))) ∧ Dc a1 wr At ct Z) (fun av _ _ => 20 - (intOf av).toNat)
                        case atStart => exact ⟨0, At, ct, Z, rfl, rfl, by omega, Lib.hid (by rw [hZ.out]; simp [sqRow, upTo]), D⟩
                        case round =>
                          clear D hZ
                          obtain ⟨a, At, ct, Z, rfl, rfl, ha, hZ, D⟩ := hrel
                          by_cases halt : a + 1 < R - 1
                          · have hlen : Z.length < 1000000 := by
                              rw [hZ.out, mapZ_len, numT_len, List.length_append, sqRow_len]
                              have := sqRows_len_le (R := R) (n := b) hR2 (by omega)
                              omega
                            have k1 := kI ((a : Int) + 1) ((b : Int) + 1)
                            have k2 := kI ((a : Int) + 1 + 1) ((b : Int) + 1)
                            have k3 := kI ((a : Int) + 1 + 1) ((b : Int) + 1 + 1)
                            have k4 := kI ((a : Int) + 1) ((b : Int) + 1 + 1)
                            have q4 : (a : Int) + 1 < (R : Int) - 1 := by omega
                            have m1 : innS (a + 1) (b + 1) ∈ P := hmI (by omega) (by omega) (by omega) (by omega)
                            have m2 : innS (a + 1 + 1) (b + 1) ∈ P := hmI (by omega) (by omega) (by omega) (by omega)
                            have m3 : innS (a + 1 + 1) (b + 1 + 1) ∈ P := hmI (by omega) (by omega) (by omega) (by omega)
                            have m4 : innS (a + 1) (b + 1 + 1) ∈ P := hmI (by omega) (by omega) (by omega) (by omega)
                            have k2b := kI ((a : Int) + 2) ((b : Int) + 1)
                            have k3b := kI ((a : Int) + 2) ((b : Int) + 2)
                            have k4b := kI ((a : Int) + 1) ((b : Int) + 2)
                            go_upto_region 37 with (first | (go_at_call 16; first | ((with_reducible refine (k1.at_ _).mono ?_); rintro e w' ⟨rfl, xg, rfl⟩)) | (go_at_call 17; (refine (cN _ (D.grow _) (innS (a + 1) (b + 1)) m1).mono ?_); rintro e w36 ⟨rfl, D36⟩) | fail)
                            go_upto_region 38 with (first | (go_at_call 16; first | ((with_reducible refine (k2.at_ _).mono ?_); rintro e w' ⟨rfl, xg, rfl⟩) | ((with_reducible refine (k2b.at_ _).mono ?_); rintro e w' ⟨rfl, xg, rfl⟩)) | (go_at_call 17; (refine (cN _ (D36.grow _) (innS (a + 1 + 1) (b + 1)) m2).mono ?_); rintro e w37 ⟨rfl, D37⟩) | fail)
                            go_upto_region 39 with (first | (go_at_call 16; first | ((with_reducible refine (k3.at_ _).mono ?_); rintro e w' ⟨rfl, xg, rfl⟩) | ((with_reducible refine (k3b.at_ _).mono ?_); rintro e w' ⟨rfl, xg, rfl⟩)) | (go_at_call 17; (refine (cN _ (D37.grow _) (innS (a + 1 + 1) (b + 1 + 1)) m3).mono ?_); rintro e w38 ⟨rfl, D38⟩) | fail)
                            go_upto_region 40 with (first | (go_at_call 16; first | ((with_reducible refine (k4.at_ _).mono ?_); rintro e w' ⟨rfl, xg, rfl⟩) | ((with_reducible refine (k4b.at_ _).mono ?_); rintro e w' ⟨rfl, xg, rfl⟩)) | (go_at_call 17; (refine (cN _ (D38.grow _) (innS (a + 1) (b + 1 + 1)) m4).mono ?_); rintro e w39 ⟨rfl, D39⟩) | fail)
                            go_wp2_with (first | (at_builtin; (refine wpL_appL Try.underlying25 infoTr a1 _ (D39.bel) Z _ (D39.own) hlen (mapZ (numT P (sqA (a + 1) (b + 1)))) (by simp [mapZ, numT, sqA, sqS]) rfl _ _ rfl rfl rfl _ rfl ?_); intro A2 c2 u2 hown2 hb2) | fail)
                            go_roundw
                            case rel => exact ⟨a + 1, A2, c2, Z ++ mapZ (numT P (sqA (a + 1) (b + 1))), by go_num, by simp [mapZ, numT, sqA, sqS], by omega, Lib.hid (by rw [hZ.out, ← mapZ_app, ← numT_app, List.append_assoc]; rfl), ⟨hb2, hown2⟩⟩
                            case measure => simp [intOf]; omega
                          · have e9 : a = R - 2 := by omega
                            have hZ2 : Z = mapZ (numT P (sqRows R (b + 1))) := by rw [hZ.out, e9]; rfl
                            have q4 : ¬ ((a : Int) + 1 < (R : Int) - 1) := by omega
                            replace hZ2 := Lib.hid hZ2
                            replace e9 := Lib.hid e9
                            go_wp2
                            go_roundw
                            case rel => exact ⟨b + 1, At, ct, Z, by go_num, rfl, by omega, hZ2, D⟩
                            case measure => simp [intOf]; omega
                      · have e9 : b = R - 2 := by omega
                        have hZ2 : Z = mapZ (numT P (sqRows R (R - 2))) := by rw [hZ.out, e9]
                        have q3 : ¬ ((b : Int) + 1 < (R : Int) - 1) := by omega
                        replace hZ2 := Lib.hid hZ2
                        replace e9 := Lib.hid e9
                        go_upto_region 41 with (fail)
                        clear hZ
                        go_wp2
                        go_loopw [20, 13] (fun kv tv wr => ∃ (k : Nat) (At : Option Addr) (ct : Nat) (Z : List Spt), kv = .int .i64 (k : Int) ∧ tv = .slice At Z.length ct ∧ k ≤ 4 ∧ Hid (Z = mapZ (numT P (sqRows R (R - 2) ++ stripsS r R k))) ∧ Dc a1 wr At ct Z) (fun kv _ _ => 4 - (intOf kv).toNat)
                        case atStart => exact ⟨0, At, ct, Z, rfl, rfl, by omega, Lib.hid (by rw [hZ2.out]; simp [stripsS, upTo]), D⟩
                        case round =>
                          clear D hZ2
                          obtain ⟨k, At, ct, Z, rfl, rfl, hk, hZ, D⟩ := hrel
                          by_cases hk4 : k < 4
                          · have q9 : (k : Int) < 4 := by omega
                            have q0 : (0 : Int) ≤ (k : Int) := by omega
                            obtain ⟨hr1, hr2⟩ := hrb.out k hk4
                            have cr : wr.cell? ⟨bq, k, none⟩ = some (.int .i64 (r k : Int)) := (D.bel.cell (p := ⟨bq, k, none⟩) lb1).trans (hQ1.out k hk4)
                            have lbx : bq < wr.heap.size := Nat.lt_of_lt_of_le lb1 D.bel.size
                            have hZs : (sqRows R (R - 2) ++ stripsS r R k).length < 1000 := by
                              rw [List.length_append]
                              have := sqRows_len_le (R := R) (n := R - 2) hR2 (by omega)
                              have := strips_len_le (r := r) hR2 (fun k hk => (hrb.out k hk).2) k hk
                              omega
                            have hmO : ∀ {i : Nat}, i ≤ r k → outS k (r k) i ∈ P := fun h => by rw [hP2.out]; exact out_in hk4 hr1 h
                            have hmB : ∀ {t : Nat}, 1 ≤ t → t < R → besS k t R ∈ P := fun h1 h2 => by rw [hP2.out]; exact bes_in hk4 h1 h2
                            go_upto_region 45 with (fail)
                            clear cr lbx
                            have hst : stripsS r R (k + 1) = stripsS r R k ++ stripS k (r k) R := rfl
                            replace hst := Lib.hid hst
                            obtain ⟨rk, hrk⟩ : ∃ n, r k = n := ⟨_, rfl⟩
                            rw [hrk] at hr1 hr2 hst hmO ⊢
                            go_wp2
                            go_loopw [22, 23, 13] (fun iv tv lv wr => ∃ (i t : Nat) (At : Option Addr) (ct : Nat) (Z : List Spt) (dn : List Tri), iv = .int .i64 (i : Int) ∧ tv = .int .i64 (t : Int) ∧ lv = .slice At Z.length ct ∧ i ≤ rk ∧ 1 ≤ t ∧ t ≤ R - 1 ∧ Hid (dn ++ stpS k rk R (leftS rk R i t) i t = stripS k rk R) ∧ Hid (Z = mapZ (numT P (sqRows R (R - 2) ++ stripsS r R k ++ dn))) ∧ Dc a1 wr At ct Z) (fun iv tv _ _ => (rk - (intOf iv).toNat) + (R - (intOf tv).toNat))
                            case atStart => exact ⟨0, 1, At, ct, Z, [], rfl, rfl, rfl, by omega, by omega, by omega, Lib.hid rfl, Lib.hid (by rw [hZ.out]; simp), D⟩
                            case round =>
                              clear D hZ
                              obtain ⟨i, t, At, ct, Z, dn, rfl, rfl, rfl, hi, ht1, ht, hdn, hZ, D⟩ := hrel
                              have hlen : Z.length < 1000000 := by
                                have h1 := congrArg List.length hdn.out
                                rw [List.length_append, strip_len] at h1
                                rw [hZ.out, mapZ_len, numT_len, List.length_append]
                                omega
                              have q1 : 0 ≤ (2 * (i : Int) + 1) * (R : Int) ∧ (2 * (i : Int) + 1) * (R : Int) ≤ 1000 := by
                                have e : (2 * (i : Int) + 1) * (R : Int) = (((2 * i + 1) * R : Nat) : Int) := by simp
                                have e2 : (2 * i + 1) * R ≤ 33 * 16 := Nat.mul_le_mul (by omega) hR2
                                omega
                              have q2 : 0 ≤ (2 * (t : Int) + 1) * (rk : Int) ∧ (2 * (t : Int) + 1) * (rk : Int) ≤ 1000 := by
                                have e : (2 * (t : Int) + 1) * (rk : Int) = (((2 * t + 1) * rk : Nat) : Int) := by simp
                                have e2 : (2 * t + 1) * rk ≤ 33 * 16 := Nat.mul_le_mul (by omega) hr2
                                omega
                              obtain ⟨q1a, q1b⟩ := q1
                              obtain ⟨q2a, q2b⟩ := q2
                              rcases (show (i < rk ∧ t = R - 1) ∨ (i < rk ∧ t < R - 1 ∧ (2 * i + 1) * R ≤ (2 * t + 1) * rk) ∨ (i < rk ∧ t < R - 1 ∧ ¬ (2 * i + 1) * R ≤ (2 * t + 1) * rk) ∨ (i = rk ∧ t < R - 1) ∨ (i = rk ∧ t = R - 1) by omega) with ⟨hi2, ht2⟩ | ⟨hi2, ht2, hcmp⟩ | ⟨hi2, ht2, hcmp⟩ | ⟨hi2, ht2⟩ | ⟨hi2, ht2⟩
                              · have f1 : (i : Int) < (rk : Int) := by omega
                                have f2 : ((t : Int) == (R : Int) - 1) = true := by simp; omega
                                have hgo : goA rk R i t := ⟨by omega, .inl (by omega)⟩
                                have hsp := stp_A (k := k) hgo
                                have kO := router_G k rk i hk4 hr1 (by omega) hr2
                                have kB := rbeside_G k t R hk4 (by omega) (by omega) hR2
                                have mO : outS k rk i ∈ P := hmO (by omega)
                                have mB : besS k t R ∈ P := hmB (by omega) (by omega)
                                have kO2 := router_G k rk (i + 1) hk4 hr1 (by omega) hr2
                                rw [show ((i + 1 : Nat) : Int) = (i : Int) + 1 by omega] at kO2
                                have mO2 : outS k rk (i + 1) ∈ P := hmO (by omega)
                                replace hsp := Lib.hid hsp
                                replace ht2 := Lib.hid ht2
                                replace hi2 := Lib.hid hi2
                                clear hgo
                                go_upto_region 49 with (first | (go_at_call 18; (with_reducible refine (kO.at_ _).mono ?_); rintro e w' ⟨rfl, xg, rfl⟩) | (go_at_call 17; (refine (cN _ (D.grow _) (outS k rk i) mO).mono ?_); rintro e w48 ⟨rfl, D48⟩) | fail)
                                go_upto_region 50 with (first | (go_at_call 19; (with_reducible refine (kB.at_ _).mono ?_); rintro e w' ⟨rfl, xg, rfl⟩) | (go_at_call 17; (refine (cN _ (D48.grow _) (besS k t R) mB).mono ?_); rintro e w49 ⟨rfl, D49⟩) | fail)
                                go_upto_region 52 with (first | (go_at_call 18; (with_reducible refine (kO2.at_ _).mono ?_); rintro e w' ⟨rfl, xg, rfl⟩) | (go_at_call 17; (refine (cN _ (D49.grow _) (outS k rk (i + 1)) mO2).mono ?_); rintro e w51 ⟨rfl, D51⟩) | (at_builtin; (refine wpL_appL Try.underlying25 infoTr a1 _ (D51.bel) Z _ (D51.own) hlen (mapZ (numT P [(outS k rk i, outS k rk (i + 1), besS k t R)])) (by simp [mapZ, numT, sqA, sqS]) rfl _ _ rfl rfl rfl _ rfl ?_); intro A2 c2 u2 hown2 hb2) | fail)
                                go_wp2
                                go_roundw
                                case rel =>
                                  refine ⟨i + 1, t, A2, c2, Z ++ mapZ (numT P [(outS k rk i, outS k rk (i + 1), besS k t R)]), dn ++ [(outS k rk i, outS k rk (i + 1), besS k t R)], by go_num, by go_num, by simp [mapZ, numT], by have := hi2.out; omega, by omega, by have := ht2.out; omega, Lib.hid ?_, Lib.hid ?_, ⟨hb2, hown2⟩⟩
                                  · rw [← hdn.out, hsp.out, List.append_assoc]; rfl
                                  · rw [hZ.out, ← mapZ_app, ← numT_app, List.append_assoc]
                                case measure => have := hi2.out; have := ht2.out; simp [intOf]; omega
                              · have f1 : (i : Int) < (rk : Int) := by omega
                                have f2 : ((t : Int) == (R : Int) - 1) = false := by simp; omega
                                have f2b : (t : Int) < (R : Int) - 1 := by omega
                                have f3 : (2 * (i : Int) + 1) * (R : Int) ≤ (2 * (t : Int) + 1) * (rk : Int) := by exact_mod_cast hcmp
                                have hgo : goA rk R i t := ⟨by omega, .inr hcmp⟩
                                have hsp := stp_A (k := k) hgo
                                have kO := router_G k rk i hk4 hr1 (by omega) hr2
                                have kB := rbeside_G k t R hk4 (by omega) (by omega) hR2
                                have mO : outS k rk i ∈ P := hmO (by omega)
                                have mB : besS k t R ∈ P := hmB (by omega) (by omega)
                                have kO2 := router_G k rk (i + 1) hk4 hr1 (by omega) hr2
                                rw [show ((i + 1 : Nat) : Int) = (i : Int) + 1 by omega] at kO2
                                have mO2 : outS k rk (i + 1) ∈ P := hmO (by omega)
                                replace hsp := Lib.hid hsp
                                replace ht2 := Lib.hid ht2
                                replace hi2 := Lib.hid hi2
                                clear hgo
                                go_upto_region 49 with (first | (go_at_call 18; (with_reducible refine (kO.at_ _).mono ?_); rintro e w' ⟨rfl, xg, rfl⟩) | (go_at_call 17; (refine (cN _ (D.grow _) (outS k rk i) mO).mono ?_); rintro e w48 ⟨rfl, D48⟩) | fail)
                                go_upto_region 50 with (first | (go_at_call 19; (with_reducible refine (kB.at_ _).mono ?_); rintro e w' ⟨rfl, xg, rfl⟩) | (go_at_call 17; (refine (cN _ (D48.grow _) (besS k t R) mB).mono ?_); rintro e w49 ⟨rfl, D49⟩) | fail)
                                go_upto_region 52 with (first | (go_at_call 18; (with_reducible refine (kO2.at_ _).mono ?_); rintro e w' ⟨rfl, xg, rfl⟩) | (go_at_call 17; (refine (cN _ (D49.grow _) (outS k rk (i + 1)) mO2).mono ?_); rintro e w51 ⟨rfl, D51⟩) | (at_builtin; (refine wpL_appL Try.underlying25 infoTr a1 _ (D51.bel) Z _ (D51.own) hlen (mapZ (numT P [(outS k rk i, outS k rk (i + 1), besS k t R)])) (by simp [mapZ, numT, sqA, sqS]) rfl _ _ rfl rfl rfl _ rfl ?_); intro A2 c2 u2 hown2 hb2) | fail)
                                go_wp2
                                go_roundw
                                case rel =>
                                  refine ⟨i + 1, t, A2, c2, Z ++ mapZ (numT P [(outS k rk i, outS k rk (i + 1), besS k t R)]), dn ++ [(outS k rk i, outS k rk (i + 1), besS k t R)], by go_num, by go_num, by simp [mapZ, numT], by have := hi2.out; omega, by omega, by have := ht2.out; omega, Lib.hid ?_, Lib.hid ?_, ⟨hb2, hown2⟩⟩
                                  · rw [← hdn.out, hsp.out, List.append_assoc]; rfl
                                  · rw [hZ.out, ← mapZ_app, ← numT_app, List.append_assoc]
                                case measure => have := hi2.out; have := ht2.out; simp [intOf]; omega
                              · have f1 : (i : Int) < (rk : Int) := by omega
                                have f2 : ((t : Int) == (R : Int) - 1) = false := by simp; omega
                                have f2b : (t : Int) < (R : Int) - 1 := by omega
                                have f3 : ¬ ((2 * (i : Int) + 1) * (R : Int) ≤ (2 * (t : Int) + 1) * (rk : Int)) := by exact_mod_cast hcmp
                                have hgo : ¬ goA rk R i t := fun h => h.2.elim (fun h => by omega) hcmp
                                have hsp := stp_B (k := k) hgo (by omega)
                                have kO := router_G k rk i hk4 hr1 (by omega) hr2
                                have kB := rbeside_G k t R hk4 (by omega) (by omega) hR2
                                have mO : outS k rk i ∈ P := hmO (by omega)
                                have mB : besS k t R ∈ P := hmB (by omega) (by omega)
                                have kB2 := rbeside_G k (t + 1) R hk4 (by omega) (by omega) hR2
                                rw [show ((t + 1 : Nat) : Int) = (t : Int) + 1 by omega] at kB2
                                have mB2 : besS k (t + 1) R ∈ P := hmB (by omega) (by omega)
                                replace hsp := Lib.hid hsp
                                replace ht2 := Lib.hid ht2
                                replace hi2 := Lib.hid hi2
                                clear hgo
                                go_upto_region 49 with (first | (go_at_call 18; (with_reducible refine (kO.at_ _).mono ?_); rintro e w' ⟨rfl, xg, rfl⟩) | (go_at_call 17; (refine (cN _ (D.grow _) (outS k rk i) mO).mono ?_); rintro e w48 ⟨rfl, D48⟩) | fail)
                                go_upto_region 50 with (first | (go_at_call 19; (with_reducible refine (kB.at_ _).mono ?_); rintro e w' ⟨rfl, xg, rfl⟩) | (go_at_call 17; (refine (cN _ (D48.grow _) (besS k t R) mB).mono ?_); rintro e w49 ⟨rfl, D49⟩) | fail)
                                go_upto_region 54 with (first | (go_at_call 19; (with_reducible refine (kB2.at_ _).mono ?_); rintro e w' ⟨rfl, xg, rfl⟩) | (go_at_call 17; (refine (cN _ (D49.grow _) (besS k (t + 1) R) mB2).mono ?_); rintro e w51 ⟨rfl, D51⟩) | (at_builtin; (refine wpL_appL Try.underlying25 infoTr a1 _ (D51.bel) Z _ (D51.own) hlen (mapZ (numT P [(outS k rk i, besS k (t + 1) R, besS k t R)])) (by simp [mapZ, numT, sqA, sqS]) rfl _ _ rfl rfl rfl _ rfl ?_); intro A2 c2 u2 hown2 hb2) | fail)
                                go_wp2
                                go_roundw
                                case rel =>
                                  refine ⟨i, t + 1, A2, c2, Z ++ mapZ (numT P [(outS k rk i, besS k (t + 1) R, besS k t R)]), dn ++ [(outS k rk i, besS k (t + 1) R, besS k t R)], by go_num, by go_num, by simp [mapZ, numT], by have := hi2.out; omega, by omega, by have := ht2.out; omega, Lib.hid ?_, Lib.hid ?_, ⟨hb2, hown2⟩⟩
                                  · rw [← hdn.out, hsp.out, List.append_assoc]; rfl
                                  · rw [hZ.out, ← mapZ_app, ← numT_app, List.append_assoc]
                                case measure => have := hi2.out; have := ht2.out; simp [intOf]; omega
                              · have f1 : ¬ ((i : Int) < (rk : Int)) := by omega
                                have f2b : (t : Int) < (R : Int) - 1 := by omega
                                have hgo : ¬ goA rk R i t := fun h => by have := h.1; omega
                                have hsp := stp_B (k := k) hgo (by omega)
                                have kO := router_G k rk i hk4 hr1 (by omega) hr2
                                have kB := rbeside_G k t R hk4 (by omega) (by omega) hR2
                                have mO : outS k rk i ∈ P := hmO (by omega)
                                have mB : besS k t R ∈ P := hmB (by omega) (by omega)
                                have kB2 := rbeside_G k (t + 1) R hk4 (by omega) (by omega) hR2
                                rw [show ((t + 1 : Nat) : Int) = (t : Int) + 1 by omega] at kB2
                                have mB2 : besS k (t + 1) R ∈ P := hmB (by omega) (by omega)
                                replace hsp := Lib.hid hsp
                                replace ht2 := Lib.hid ht2
                                replace hi2 := Lib.hid hi2
                                clear hgo
                                go_upto_region 49 with (first | (go_at_call 18; (with_reducible refine (kO.at_ _).mono ?_); rintro e w' ⟨rfl, xg, rfl⟩) | (go_at_call 17; (refine (cN _ (D.grow _) (outS k rk i) mO).mono ?_); rintro e w48 ⟨rfl, D48⟩) | fail)
                                go_upto_region 50 with (first | (go_at_call 19; (with_reducible refine (kB.at_ _).mono ?_); rintro e w' ⟨rfl, xg, rfl⟩) | (go_at_call 17; (refine (cN _ (D48.grow _) (besS k t R) mB).mono ?_); rintro e w49 ⟨rfl, D49⟩) | fail)
                                go_upto_region 54 with (first | (go_at_call 19; (with_reducible refine (kB2.at_ _).mono ?_); rintro e w' ⟨rfl, xg, rfl⟩) | (go_at_call 17; (refine (cN _ (D49.grow _) (besS k (t + 1) R) mB2).mono ?_); rintro e w51 ⟨rfl, D51⟩) | (at_builtin; (refine wpL_appL Try.underlying25 infoTr a1 _ (D51.bel) Z _ (D51.own) hlen (mapZ (numT P [(outS k rk i, besS k (t + 1) R, besS k t R)])) (by simp [mapZ, numT, sqA, sqS]) rfl _ _ rfl rfl rfl _ rfl ?_); intro A2 c2 u2 hown2 hb2) | fail)
                                go_wp2
                                go_roundw
                                case rel =>
                                  refine ⟨i, t + 1, A2, c2, Z ++ mapZ (numT P [(outS k rk i, besS k (t + 1) R, besS k t R)]), dn ++ [(outS k rk i, besS k (t + 1) R, besS k t R)], by go_num, by go_num, by simp [mapZ, numT], by have := hi2.out; omega, by omega, by have := ht2.out; omega, Lib.hid ?_, Lib.hid ?_, ⟨hb2, hown2⟩⟩
                                  · rw [← hdn.out, hsp.out, List.append_assoc]; rfl
                                  · rw [hZ.out, ← mapZ_app, ← numT_app, List.append_assoc]
                                case measure => have := hi2.out; have := ht2.out; simp [intOf]; omega
                              · have hnil : stpS k rk R (leftS rk R i t) i t = [] := by
                                  have : leftS rk R i t = 0 := by unfold leftS; omega
                                  rw [this]; rfl
                                have hfin := hdn.out
                                rw [hnil, List.append_nil] at hfin
                                have hZ2 : Z = mapZ (numT P (sqRows R (R - 2) ++ stripsS r R (k + 1))) := by rw [hZ.out, hst.out, hfin, List.append_assoc]
                                have f1 : ¬ ((i : Int) < (rk : Int)) := by omega
                                have f2b : ¬ ((t : Int) < (R : Int) - 1) := by omega
                                clear hnil
                                replace hfin := Lib.hid hfin
                                replace hZ2 := Lib.hid hZ2
                                replace ht2 := Lib.hid ht2
                                replace hi2 := Lib.hid hi2
                                go_wp2
                                go_roundw
                                case rel => exact ⟨k + 1, At, ct, Z, by go_num, rfl, by omega, hZ2, D⟩
                                case measure => simp [intOf]; omega
                          · obtain rfl : k = 4 := by omega
                            rw [show ((4 : Nat) : Int) = 4 from rfl]
                            have hT1 : mapZ (trisW r) = Z := by
                              rw [htW.out, hZ.out]
                              unfold trisR
                              rw [if_neg hR9.out]
                            have hlZ : Z.length = (trisW r).length := by rw [← hT1, mapZ_len]
                            have hcZ : Z.length ≤ ct := by
                              obtain ⟨A0, c0, e0, h0⟩ := own_len D.own
                              simp only [Value.slice.injEq] at e0
                              omega
                            have hL2 : L3 wr At Z := L3_own D.own
                            replace hT1 := Lib.hid hT1
                            replace hlZ := Lib.hid hlZ
                            go_wp2
                            refine bodyPost_ret (v := .tuple #[.slice A P.length c, .slice At Z.length ct, .bool true]) (by simp [results, Try.results10, go_sem]) rfl ⟨bel_trans hba D.bel, .inl ⟨hoq.out, r, A, At, c, ct, hqr.out, hrb.out, ?_, ?_, ?_, ?_, ?_⟩⟩
                            · rw [hsW.out, hlZ.out]
                            · rw [hsW.out]; exact hcP
                            · rw [← hlZ.out]; exact hcZ
                            · rw [hsW.out]; exact hL1.below D.bel
                            · rw [show (trisW r).map trZ = Z from hT1.out]; exact hL2
end Go.Proofs.Ytpdnaceggpdleaa
namespace Go.Proofs.Ytpdnaceggpdleaa
open Go.RowKit
set_option linter.unusedVariables false
set_option linter.unusedSimpArgs false
set_option linter.unnecessarySimpa false
set_option maxRecDepth 100000
def rQ (q : Nat → Int) : Nat → Nat := fun k => (q k).toNat
theorem mxR_ext {r s : Nat → Nat} : ∀ n, (∀ k, k < n → r k = s k) → mxR r n = mxR s n
  | 0, _ => rfl
  | n + 1, h => by
    show max (mxR r n) (r n) = max (mxR s n) (s n)
    rw [mxR_ext n (fun k hk => h k (by omega)), h n (by omega)]
theorem spotsW_ext {r s : Nat → Nat} (h : ∀ k, k < 4 → r k = s k) : spotsW r = spotsW s := by
  unfold spotsW
  rw [mxR_ext 4 h]
  unfold spotsR edgesS upTo upTo upTo upTo upTo
  rw [h 0 (by omega), h 1 (by omega), h 2 (by omega), h 3 (by omega)]
theorem trisW_ext {r s : Nat → Nat} (h : ∀ k, k < 4 → r k = s k) : trisW r = trisW s := by
  unfold trisW
  rw [spotsW_ext h, mxR_ext 4 h]
  unfold trisR stripsS upTo upTo upTo upTo upTo
  rw [h 0 (by omega), h 1 (by omega), h 2 (by omega), h 3 (by omega)]
def WvB (W' : World) (q : Nat → Int) (e : Ending) : Prop :=
  (okQ q ∧ ∃ (A1 A2 : Option Addr) (c1 c2 : Nat), e = .returned (.tuple #[.slice A1 (spotsW (rQ q)).length c1, .slice A2 (trisW (rQ q)).length c2, .bool true]) ∧ (spotsW (rQ q)).length ≤ c1 ∧ (trisW (rQ q)).length ≤ c2 ∧ L3 W' A1 (spotsW (rQ q)) ∧ L3 W' A2 ((trisW (rQ q)).map trZ)) ∨
  (¬ okQ q ∧ e = .returned (.tuple #[.slice none 0 0, .slice none 0 0, .bool false]))
theorem WvB_of {W' : World} {q : Nat → Int} {e : Ending} (h : WvA W' q e spotsW trisW) : WvB W' q e := by
  rcases h with ⟨hok, r, A1, A2, c1, c2, h1, h2, h3, h4, h5, h6, h7⟩ | h
  · have hr : ∀ k, k < 4 → r k = rQ q k := fun k hk => by
      have := h1 k hk
      unfold rQ
      omega
    rw [spotsW_ext hr] at h3 h4 h6
    rw [trisW_ext hr] at h3 h5 h7
    exact .inl ⟨hok, A1, A2, c1, c2, h3, h4, h5, h6, h7⟩
  · exact .inr h
theorem weaveB (W : World) (q : Nat → Int) (hq : ∀ k, k < 4 → i64W (q k)) : Calls Try.prog 9 #[.agg (q4C q)] W fun e W' => Below W.heap.size W W' ∧ WvB W' q e :=
  (weave_any W q hq).mono fun e W' ⟨h1, h2⟩ => ⟨h1, WvB_of h2⟩
theorem rweaveB (W : World) (q : Nat → Int) (hq : ∀ k, k < 4 → i64W (q k)) : Calls Try.prog 10 #[.agg (q4C q)] W fun e W' => Below W.heap.size W W' ∧ WvB W' q e :=
  (rweave_any W q hq).mono fun e W' ⟨h1, h2⟩ => ⟨h1, WvB_of h2⟩
theorem okQ_r {q : Nat → Int} (h : okQ q) : ∀ k, k < 4 → 1 ≤ rQ q k ∧ rQ q k ≤ 16 := fun k hk => by
  have := h k hk
  unfold rQ
  omega
theorem okQ_eq {q : Nat → Int} (h : okQ q) : ∀ k, k < 4 → q k = (rQ q k : Int) := fun k hk => by
  have := h k hk
  unfold rQ
  omega
theorem most_bd {r : Nat → Nat} (h : ∀ k, k < 4 → 1 ≤ r k ∧ r k ≤ 16) : 1 ≤ mxR r 4 ∧ mxR r 4 ≤ 16 := by
  have h1 := mxR_le 4 (fun k hk => (h k hk).2)
  have h0 := (h 3 (by omega)).1
  have : r 3 ≤ mxR r 4 := Nat.le_max_right _ _
  omega
theorem spotsW_len {r : Nat → Nat} (h : ∀ k, k < 4 → 1 ≤ r k ∧ r k ≤ 16) : (spotsW r).length = r 0 + r 1 + r 2 + r 3 + (mxR r 4 - 1) * (mxR r 4 - 1) := spots_len r _ (fun k hk => (h k hk).1)
theorem trisW_two {r : Nat → Nat} (h2 : 2 ≤ mxR r 4) : (trisW r).length = (mxR r 4 - 2) * ((mxR r 4 - 2) * 2) + (r 0 + r 1 + r 2 + r 3 + 4 * (mxR r 4 - 2)) := by
  unfold trisW
  rw [numT_len, tris_len r _ h2]
theorem trisW_one {r : Nat → Nat} (h1 : mxR r 4 = 1) : (trisW r).length = 2 := by
  unfold trisW
  rw [numT_len, h1]
  rfl
theorem spotsW_lt {r : Nat → Nat} (h : ∀ k, k < 4 → 1 ≤ r k ∧ r k ≤ 16) : (spotsW r).length ≤ 400 := by
  rw [spotsW_len h]
  obtain ⟨_, h2⟩ := most_bd h
  have : (mxR r 4 - 1) * (mxR r 4 - 1) ≤ 15 * 15 := Nat.mul_le_mul (by omega) (by omega)
  have := h 0 (by omega)
  have := h 1 (by omega)
  have := h 2 (by omega)
  have := h 3 (by omega)
  omega
theorem trisW_lt {r : Nat → Nat} (h : ∀ k, k < 4 → 1 ≤ r k ∧ r k ≤ 16) : (trisW r).length ≤ 600 := by
  obtain ⟨h1, h2⟩ := most_bd h
  by_cases e : mxR r 4 = 1
  · rw [trisW_one e]; omega
  · rw [trisW_two (by omega)]
    have : (mxR r 4 - 2) * ((mxR r 4 - 2) * 2) ≤ 14 * 28 := Nat.mul_le_mul (by omega) (by omega)
    have := h 0 (by omega)
    have := h 1 (by omega)
    have := h 2 (by omega)
    have := h 3 (by omega)
    omega
theorem weave2 (W : World) : Calls Try.prog 9 #[.agg #[.int .i64 2, .int .i64 2, .int .i64 2, .int .i64 2]] W fun e W' => Below W.heap.size W W' ∧ ∃ b off c1 A2 c2, e = .returned (.tuple #[.slice (some ⟨b, off, none⟩) 9 c1, .slice A2 8 c2, .bool true]) ∧ b < W'.heap.size ∧ W'.cell? ⟨b, off + 24, none⟩ = some (.int .i64 3) ∧ W'.cell? ⟨b, off + 24 + 1, none⟩ = some (.int .i64 1) ∧ W'.cell? ⟨b, off + 24 + 2, none⟩ = some (.int .i64 1) :=
  (weaveB W (fun _ => 2) (fun k hk => by unfold i64W; omega)).mono fun e W' ⟨hb, h⟩ => by
    refine ⟨hb, ?_⟩
    rcases h with ⟨_, A1, A2, c1, c2, he, _, _, h1, _⟩ | ⟨hno, _⟩
    · have e1 : (spotsW (rQ fun _ => 2)).length = 9 := by decide +kernel
      have e2 : (trisW (rQ fun _ => 2)).length = 8 := by decide +kernel
      obtain ⟨b, off, rfl, hl, hc⟩ := h1 (by omega)
      obtain ⟨g0, g1, g2⟩ := hc 8 (by omega)
      have e3b : (spotsW (rQ fun _ => 2))[8]? = some (3, 1, 1) := by decide +kernel
      have e3 := (List.getElem?_eq_some_iff.1 e3b).2
      rw [e3] at g0 g1 g2
      rw [e1, e2] at he
      exact ⟨b, off, c1, A2, c2, he, hl, g0, g1, g2⟩
    · exact absurd (fun k hk => ⟨by show (1 : Int) ≤ 2; omega, by show (2 : Int) ≤ 16; omega⟩) hno
theorem weave3 (W : World) : Calls Try.prog 9 #[.agg #[.int .i64 2, .int .i64 2, .int .i64 2, .int .i64 17]] W fun e W' => Below W.heap.size W W' ∧ e = .returned (.tuple #[.slice none 0 0, .slice none 0 0, .bool false]) :=
  (weaveB W (fun k => if k = 3 then 17 else 2) (fun k hk => by unfold i64W; split <;> omega)).mono fun e W' ⟨hb, h⟩ => by
    refine ⟨hb, ?_⟩
    rcases h with ⟨hok, _⟩ | ⟨_, h⟩
    · have := hok 3 (by omega)
      simp at this
    · exact h
theorem run_max4W (ts : Array TypeId) (t : TypeId) (a b c d : Int) (w : World) : (Builtin.max_ ts t #[.int .i64 a, .int .i64 b, .int .i64 c, .int .i64 d]).run Try.prog w = .ok (.int .i64 (max (max (max a b) c) d)) w := by
  have e : (Builtin.max_ ts t #[.int .i64 a, .int .i64 b, .int .i64 c, .int .i64 d]).run Try.prog w = .ok (.int .i64 (if d > (if c > (if b > a then b else a) then c else (if b > a then b else a)) then d else (if c > (if b > a then b else a) then c else (if b > a then b else a)))) w := by
    have h3 := run_max_int3 (P := Try.prog) (w := w) ts t .i64 .i64 .i64 a b c
    unfold Builtin.max_ at h3 ⊢
    simp only [List.foldlM_cons, List.foldlM_nil] at h3 ⊢
    simp [Builtin.max2]
  rw [e]
  congr 2
  repeat (first | split | omega)
theorem formT (s : Spt) : (sV s).formed Try.prog 30 = true := by rfl
theorem litsT {s : Spt} (h : rngS s) : Try.prog.keyLits 12 30 (sV s).cells.toList = some (lits3 s) := by
  obtain ⟨h1, h2, h3⟩ := h
  have c0 := litW 10 h1
  have c1 := litW 10 h2
  have c2 := litW 10 h3
  have ci : Try.prog.cellsOf 3 = 1 := by kernel_rfl
  have cs : Try.prog.cellsOf 30 = 3 := by kernel_rfl
  unfold Program.keyLits
  rw [Try.underlying30]
  simp [cs, ci, List.range_succ, Value.cells, c0, c1, c2, lits3]
theorem neT (s : Spt) (hs : rngS s) (w : World) : (binOp .neq 30 (sV s) (sV s)).run Try.prog w = .ok (.bool false) w := by
  obtain ⟨r, hr, hi⟩ := run_equalIn_deep (P := Try.prog) 9990 10 30 (by kernel_rfl) w 12 12 _ _ _ _ (formT s) (formT s) (litsT hs) (litsT hs)
  rw [hi.2 rfl] at hr
  rw [run_neq_struct, hr]
  rfl
theorem quiet_neT {ops : Array Oper} {C : World → Prop} {Q : Act → Prop} {o : Oper} {rest : List Oper} {a : Act} (x y : Operand) (ho : o.op = .binOp .neq 30 x y 30) (hg : Region.wanted o (yielded ops a.tmps) = true) (s : Spt) (hx : a.eval x = sV s) (hy : a.eval y = sV s) (hs : rngS s)
    (K : wpQuiet Try.prog ops C Q rest (a.put o.dst (.bool false))) : wpQuiet Try.prog ops C Q (o :: rest) a :=
  quiet_byW hg _ (fun w _ => by
    have := neT s hs w
    have hg := run_eqGuard_agg (P := Try.prog) (w := w) .neq 30 x y #[.int .i64 s.1, .int .i64 s.2.1, .int .i64 s.2.2] #[.int .i64 s.1, .int .i64 s.2.1, .int .i64 s.2.2] (by kernel_rfl)
    unfold execOp
    simp only [ho, hx, hy, Sem.run_bind, hg, this, Result.andThen_ok, Sem.run_pure]) K
theorem nof_le : ∀ (l : List Spt) (s : Spt), nof l s ≤ l.length
  | [], _ => Nat.le_refl _
  | q :: l, s => by
    unfold nof
    split
    · omega
    · have := nof_le l s
      simpa using this
theorem rng_tris {r : Nat → Nat} (h : ∀ k, k < 4 → 1 ≤ r k ∧ r k ≤ 16) : ∀ z ∈ (trisW r).map trZ, rngS z := fun z hz => by
  obtain ⟨t, ht, rfl⟩ := List.mem_map.1 hz
  unfold trisW numT at ht
  obtain ⟨x, _, rfl⟩ := List.mem_map.1 ht
  have hl := spotsW_lt h
  have h1 := nof_le (spotsW r) x.1
  have h2 := nof_le (spotsW r) x.2.1
  have h3 := nof_le (spotsW r) x.2.2
  unfold rngS i64W trZ num3
  simp only
  omega
theorem alive13_any (W : World) : Calls Try.prog 8 #[] W fun e W' => e = .returned (.bool true) ∧ Below W.heap.size W W' := by
  have c1 := weave2 W
  have c2 := fun w => weave3 w
  replace c1 := Lib.hid c1
  replace c2 := Lib.hid c2
  go_enter Try.func8, Try.ntmps8
  go_upto_region 2 with (first | (go_at_call 9; (refine c1.out.mono ?_); rintro e W1 ⟨hb1, b, off, d1, A2, d2, rfl, hl, g0, g1, g2⟩) | fail)
  go_upto_region 3 with (first | (go_at_call 9; (refine (c2.out W1).mono ?_); rintro e W2 ⟨hb2, rfl⟩) | fail)
  have hl2 := Nat.lt_of_lt_of_le hl hb2.size
  have g0b := (hb2.cell (p := ⟨b, off + 24, none⟩) hl).trans g0
  have g1b := (hb2.cell (p := ⟨b, off + 24 + 1, none⟩) hl).trans g1
  have g2b := (hb2.cell (p := ⟨b, off + 24 + 2, none⟩) hl).trans g2
  clear hl g0 g1 g2 c1 c2
  have hbb := bel_trans hb1 hb2
  clear hb1 hb2
  go_wp2
  go_ret
  exact ⟨by rfl, hbb⟩
end Go.Proofs.Ytpdnaceggpdleaa
namespace Go.Proofs.Ytpdnaceggpdleaa
open Go.ChangeShapes Go.WideShapes Go.ChangeAt Go.RowKit
set_option linter.unusedVariables false
set_option linter.unusedSimpArgs false
section
variable {H : Type} {enc : TypeId × Value → H} {w : World} {base b0 : Nat} {spare : Nat → Bool} {held : Bool} {v : Value} {d : DataW H} {p : List MemPlace} {r : Reach}
theorem okWide_arrW {P : Program} {t e : TypeId} {n : Nat} (ht : P.underlying t = some (.array n e)) (h : Value.okWide P w r b0 t v) : ∃ cs, v = .agg cs ∧ cs.size = P.cellsOf t := by
  unfold Value.okWide at h
  rw [ht] at h
  obtain ⟨cs, h1, h2, _⟩ := h
  exact ⟨cs, h1, h2⟩
theorem open_arrW {P : Program} {t ti e : TypeId} {m f k : Nat} (hs : P.underlying t = some (.array m e)) (hC : P.cellsOf t = k) (hl : leavesAt P f 0 t = (List.range k).map fun i => (i, ti)) (hti : P.underlying ti = some (.int .i64))
    (hv : Value.okWide P w r b0 t v) (h : DataW.Trod enc P w base spare held t v d p) : ∃ g : Nat → Int, v = .agg ((List.range k).map fun i => .int .i64 (g i)).toArray ∧ ∀ i, i < k → -9223372036854775808 ≤ g i ∧ g i ≤ 9223372036854775807 := by
  obtain ⟨cs, rfl, hsz⟩ := okWide_arrW hs hv
  obtain ⟨n, hn⟩ := h
  obtain ⟨g, hg, hb⟩ := ints_trod hl hti (by simpa [Value.cells] using hsz.trans hC) hn
  refine ⟨g, ?_, hb⟩
  simp only [Value.cells] at hg
  rw [← hg]
theorem cellsI4W : Try.prog.cellsOf 22 = 4 := by kernel_rfl
theorem leavesI4W : leavesAt Try.prog 10 0 22 = (List.range 4).map fun i => (i, 3) := by kernel_rfl
theorem open_I4 (hv : Value.okWide Try.prog w r b0 22 v) (h : DataW.Trod enc Try.prog w base spare held 22 v d p) :
    ∃ q : Nat → Int, v = .agg (q4C q) ∧ ∀ k, k < 4 → i64W (q k) := by
  obtain ⟨g, rfl, hb⟩ := open_arrW Try.underlying22 cellsI4W leavesI4W Try.underlying3 hv h
  exact ⟨g, rfl, fun k hk => hb k hk⟩
end
end Go.Proofs.Ytpdnaceggpdleaa
namespace Go.Proofs.Ytpdnaceggpdleaa
open Go.ChangeShapes Go.WideShapes Go.ChangeAt Go.RowKit
set_option linter.unusedVariables false
set_option linter.unusedSimpArgs false
variable {H : Type} {enc : TypeId × Value → H} {P : Program}
theorem args_below (hl : laidOutB P = true) {W W' : World} (hb : Below W.heap.size W W') : ∀ (ts : List TypeId) (vs : List Value) (ds : List (DataW H)) (ps : List MemPlace),
    (ts.all fun t => P.readableRec t && decide (t < P.types.size)) = true → (∀ x ∈ ps, x.block < W.heap.size) →
    DataW.TrodAll enc P W 0 (fun _ => true) true ts vs ds ps → DataW.TrodAll enc P W' 0 (fun b => decide (b < W.heap.size)) true ts vs ds ps := by
  intro ts
  induction ts with
  | nil =>
    intro vs ds ps _ _ h
    obtain ⟨rfl, rfl, rfl⟩ := trodAll_nil h
    exact trodAll_mk0
  | cons t ts ih =>
    intro vs ds ps ht hx h
    simp only [List.all_cons, Bool.and_eq_true, decide_eq_true_eq] at ht
    obtain ⟨v, vs', d, ds', p, q, rfl, rfl, rfl, h0, h1⟩ := trodAll_cons h
    exact trodAll_cons_mk (Below.trod hl ht.1.1 ht.1.2 h0 hb fun x hp => hx x (by simp [hp])) (ih vs' ds' q ht.2 (fun x hp => hx x (by simp [hp])) h1)
theorem law_post {f : Func} {s : ChangeSpec} {W W' : World} {args : Array Value} {ds gs : List (DataW H)} {before : List MemPlace} {tb : TypeId}
    (hl : laidOutB P = true) (hts : (f.params.toList.all fun t => P.readableRec t && decide (t < P.types.size)) = true) (hv : s.vars = [])
    (hres : f.resultTypes = #[tb]) (htb : P.underlying tb = some .bool) (hr : (s.fn H ds).results = [.lit (.bool true)]) (ha : (s.fn H ds).args = ds) (hg : (s.fn H ds).vars = [])
    (hW : DataW.Whole enc P f.params.toList s.vars false W args.toList ds gs before) (hb : Below W.heap.size W W') :
    s.post enc P f false true false false W args (.bool true) W' := by
  have hlt := fun p hp => hW.lt (p := p) hp
  have hW0 := hW
  obtain ⟨p, q, h1, h2, rfl, hz, hn⟩ := hW
  rw [hv] at h2
  obtain ⟨rfl, rfl⟩ := trodVars_none h2
  simp only [List.append_nil] at *
  refine ⟨ds, [], p, [], p, [], hW0, ?_, ?_, ?_, World.keptBut_mono (fun _ h => h.elim) (hb.frame fun _ => False), fun h => by cases h⟩
  · simp only [List.append_nil, hr, hres]
    exact trodAll_cons_mk (shut_bool htb true) trodAll_mk0
  · simp only [List.append_nil, ha]
    exact args_below hl hb _ _ _ _ hts (fun x hx => hlt x hx) h1
  · simp only [List.append_nil, hg, hv]
    rfl
end Go.Proofs.Ytpdnaceggpdleaa
