/- The maps of package topo: which face goes along each way; of each vertex the last face that it was met in. Package topo: face, fan; rows of numbers and of faces that are read. The last step of a law's row: it answered true, and all that was there is as it was. No program is imported. Faces that are handed in, opened. Package relief: texels, shapes, cells, and its four calls. Package relief and the document's: shapes of textures, texels. -/
import Derived.Maps.OwnOps
import Derived.Maps.OwnSet
import Derived.Maps.RangeWalk
import Derived.DeepKeys4
import Derived.ProofKit
import Derived.OpenShut
import Derived.Carry
import Derived.Test.YteigionfaodafabProg
import Derived.Test.YteigionfaodafabC0
import Derived.Test.YteigionfaodafabC1
import Derived.Test.YteigionfaodafabC2
import Derived.Test.YteigionfaodafabC3
namespace Go.Proofs.Yteigionfaodafab
open Go.RowKit
set_option linter.unusedVariables false
set_option linter.unusedSimpArgs false
set_option linter.unnecessarySimpa false
set_option maxRecDepth 100000
def i64B (x : Int) : Prop := -9223372036854775808 ≤ x ∧ x ≤ 9223372036854775807
def keyL (a b : Int) : Lit := .string (keyBytes [.int .i64 a, .int .i64 b])
def goD (f c : Int) : DataW Unit := .agg [.lit (.int .i64 f), .lit (.int .i64 c)]
/-- The datum of a map reads as these ways. -/
structure GoD (D : DataW Unit) (P : List Way) : Prop where
  rng : ∀ w ∈ P, i64B w.a ∧ i64B w.b
  has : ∀ a b, i64B a → i64B b → Maps.has D (keyL a b) = (look P a b).isSome
  val : ∀ a b w, i64B a → i64B b → look P a b = some w → ∀ zd, D.atKey (keyL a b) zd = goD w.f w.c
section
variable {ops : Array Oper} {rest : List Oper} {o : Oper} {a : Act} {Q : Exit → Act → World → Prop}
end
/-- Of each vertex the last face that it was met in. -/
structure LaD (D : DataW Unit) (P : List Way) : Prop where
  has : ∀ v, i64B v → (Maps.has D (.int .i64 v) = true ↔ ∃ x ∈ P, x.b = v)
  val : ∀ v, i64B v → Maps.has D (.int .i64 v) = true → ∃ x ∈ P, x.b = v ∧ (∀ zd, D.atKey (.int .i64 v) zd = .lit (.int .i64 x.f)) ∧ ∀ y ∈ P, y.b = v → y.f ≤ x.f
  size : ∃ M : List Int, M.Nodup ∧ (∀ v, v ∈ M ↔ ∃ x ∈ P, x.b = v) ∧ Maps.size D = M.length
def LaM (W : World) (B : Nat) (P : List Way) : Prop := ∃ D : DataW Unit, W.ownsMap Try.prog 3 (plainElem Try.prog 3) B P.length D ∧ LaD D P
theorem LaM.made (W : World) : LaM (W.alloc (.map #[] 0)) W.heap.size [] := ⟨.map [], World.ownsMap_made _ _ _ _, fun v _ => by simp [Maps.has], fun v _ h => by simp [Maps.has] at h, [], List.nodup_nil, by simp, rfl⟩
theorem LaM.kept {W W' : World} {B : Nat} {P : List Way} {row : Option Nat} (h : LaM W B P) (hg : W.grownBy W' row) (hne : some B ≠ row) : LaM W' B P := by
  obtain ⟨D, h1, h2⟩ := h; exact ⟨D, h1.kept hg hne, h2⟩
theorem LaM.lt {W : World} {B : Nat} {P : List Way} (h : LaM W B P) : B < W.heap.size := by
  obtain ⟨D, h1, h2⟩ := h; exact h1.lt
section
variable {ops : Array Oper} {rest : List Oper} {o : Oper} {a : Act} {Q : Exit → Act → World → Prop}
end
end Go.Proofs.Yteigionfaodafab
namespace Go.Proofs.Yteigionfaodafab
open Go.RowKit
set_option linter.unusedVariables false
set_option linter.unusedSimpArgs false
set_option linter.unnecessarySimpa false
set_option maxRecDepth 100000

/-- A row of numbers that lies somewhere. -/
def IL (W : World) (A : Option Addr) (ns : List Int) : Prop := 0 < ns.length → ∃ b off, A = some ⟨b, off, none⟩ ∧ b < W.heap.size ∧ ∀ i (h : i < ns.length), W.cell? ⟨b, off + i, none⟩ = some (.int .i64 ns[i])
theorem IL.below {W W' : World} {A : Option Addr} {ns : List Int} (h : IL W A ns) (hb : Below W.heap.size W W') : IL W' A ns := fun hn => by
  obtain ⟨b, off, e, hl, hc⟩ := h hn
  exact ⟨b, off, e, Nat.lt_of_lt_of_le hl hb.size, fun i hi => (hb.cell (p := ⟨b, _, none⟩) hl).trans (hc i hi)⟩
/-- A row of rows of numbers. -/
def FL (W : World) (A : Option Addr) (fs : List (List Int)) : Prop := 0 < fs.length → ∃ b off, A = some ⟨b, off, none⟩ ∧ b < W.heap.size ∧ ∀ i (h : i < fs.length), ∃ B m, W.cell? ⟨b, off + i, none⟩ = some (.slice B fs[i].length m) ∧ IL W B fs[i]
theorem FL.below {W W' : World} {A : Option Addr} {fs : List (List Int)} (h : FL W A fs) (hb : Below W.heap.size W W') : FL W' A fs := fun hn => by
  obtain ⟨b, off, e, hl, hc⟩ := h hn
  refine ⟨b, off, e, Nat.lt_of_lt_of_le hl hb.size, fun i hi => ?_⟩
  obtain ⟨B, m, h1, h2⟩ := hc i hi
  exact ⟨B, m, (hb.cell (p := ⟨b, _, none⟩) hl).trans h1, h2.below hb⟩
theorem FL.at_ {W : World} {A : Option Addr} {fs : List (List Int)} (h : FL W A fs) (i : Nat) (hi : i < fs.length) : ∃ b off B m, A = some ⟨b, off, none⟩ ∧ b < W.heap.size ∧ W.cell? ⟨b, off + i, none⟩ = some (.slice B fs[i].length m) ∧ IL W B fs[i] := by
  obtain ⟨b, off, e, hl, hc⟩ := h (by omega)
  obtain ⟨B, m, h1, h2⟩ := hc i hi
  exact ⟨b, off, B, m, e, hl, h1, h2⟩
theorem IL.at_ {W : World} {A : Option Addr} {ns : List Int} (h : IL W A ns) (i : Nat) (hi : i < ns.length) : ∃ b off, A = some ⟨b, off, none⟩ ∧ b < W.heap.size ∧ W.cell? ⟨b, off + i, none⟩ = some (.int .i64 ns[i]) := by
  obtain ⟨b, off, e, hl, hc⟩ := h (by omega)
  exact ⟨b, off, e, hl, hc i hi⟩
theorem LaM.below {W W' : World} {B : Nat} {P : List Way} (h : LaM W B P) (hb : Below W.heap.size W W') : LaM W' B P := by
  have hlt := h.lt
  obtain ⟨D, ⟨es, cl, h1, h2⟩, h3⟩ := h
  exact ⟨D, ⟨es, cl, (hb.block B hlt).trans h1, h2⟩, h3⟩
end Go.Proofs.Yteigionfaodafab
namespace Go.Proofs.Yteigionfaodafab
open Go.ChangeShapes Go.WideShapes Go.ChangeAt Go.RowKit
set_option linter.unusedVariables false
set_option linter.unusedSimpArgs false
variable {H : Type} {enc : TypeId × Value → H} {P : Program}
theorem args_below (hl : laidOutB P = true) {W W' : World} (hb : Below W.heap.size W W') : ∀ (ts : List TypeId) (vs : List Value) (ds : List (DataW H)) (ps : List MemPlace),
    (ts.all fun t => P.readableRec t && decide (t < P.types.size)) = true → (∀ x ∈ ps, x.block < W.heap.size) →
    DataW.TrodAll enc P W 0 (fun _ => true) true ts vs ds ps → DataW.TrodAll enc P W' 0 (fun b => decide (b < W.heap.size)) true ts vs ds ps := by
  intro ts
  induction ts with
  | nil =>
    intro vs ds ps _ _ h
    obtain ⟨rfl, rfl, rfl⟩ := trodAll_nil h
    exact trodAll_mk0
  | cons t ts ih =>
    intro vs ds ps ht hx h
    simp only [List.all_cons, Bool.and_eq_true, decide_eq_true_eq] at ht
    obtain ⟨v, vs', d, ds', p, q, rfl, rfl, rfl, h0, h1⟩ := trodAll_cons h
    exact trodAll_cons_mk (Below.trod hl ht.1.1 ht.1.2 h0 hb fun x hp => hx x (by simp [hp])) (ih vs' ds' q ht.2 (fun x hp => hx x (by simp [hp])) h1)
theorem law_post {f : Func} {s : ChangeSpec} {W W' : World} {args : Array Value} {ds gs : List (DataW H)} {before : List MemPlace} {tb : TypeId}
    (hl : laidOutB P = true) (hts : (f.params.toList.all fun t => P.readableRec t && decide (t < P.types.size)) = true) (hv : s.vars = [])
    (hres : f.resultTypes = #[tb]) (htb : P.underlying tb = some .bool) (hr : (s.fn H ds).results = [.lit (.bool true)]) (ha : (s.fn H ds).args = ds) (hg : (s.fn H ds).vars = [])
    (hW : DataW.Whole enc P f.params.toList s.vars false W args.toList ds gs before) (hb : Below W.heap.size W W') :
    s.post enc P f false true false false W args (.bool true) W' := by
  have hlt := fun p hp => hW.lt (p := p) hp
  have hW0 := hW
  obtain ⟨p, q, h1, h2, rfl, hz, hn⟩ := hW
  rw [hv] at h2
  obtain ⟨rfl, rfl⟩ := trodVars_none h2
  simp only [List.append_nil] at *
  refine ⟨ds, [], p, [], p, [], hW0, ?_, ?_, ?_, World.keptBut_mono (fun _ h => h.elim) (hb.frame fun _ => False), fun h => by cases h⟩
  · simp only [List.append_nil, hr, hres]
    exact trodAll_cons_mk (shut_bool htb true) trodAll_mk0
  · simp only [List.append_nil, ha]
    exact args_below hl hb _ _ _ _ hts (fun x hx => hlt x hx) h1
  · simp only [List.append_nil, hg, hv]
    rfl
end Go.Proofs.Yteigionfaodafab
namespace Go.Proofs.Yteigionfaodafab
open Go.ChangeShapes Go.WideShapes Go.ChangeAt Go.RowKit
set_option linter.unusedVariables false
set_option linter.unusedSimpArgs false
set_option maxRecDepth 100000
section
variable {H : Type} {enc : TypeId × Value → H} {w : World} {base : Nat} {spare : Nat → Bool} {held : Bool}
theorem szV : Try.prog.cellsOf 23 = 3 := by kernel_rfl
theorem lvV : leavesAt Try.prog 10 0 23 = (List.range 3).map fun i => (i, 3) := by kernel_rfl
end
end Go.Proofs.Yteigionfaodafab
namespace Go.Proofs.Yteigionfaodafab
open Go.RowKit
set_option linter.unusedVariables false
set_option linter.unusedSimpArgs false
set_option linter.unnecessarySimpa false
set_option maxRecDepth 100000
theorem lit_any (t : Int) : Gives Try.prog 14 #[.int .i64 t] (.bool (decide (0 ≤ t ∧ t ≤ 255))) := by
  refine Gives.mk fun w => ?_
  go_enter Try.func14, Try.ntmps14
  go_wp2
  all_goals
    go_ret
    refine ⟨ret_bool ?_, (by repeat (first | exact Below.refl _ _ | refine bel_then ?_ _ | refine bel_grow ?_ _ | refine bel_alloc ?_ _ | refine bel_drew ?_ | refine bel_set ?_ (by simp) _ | refine bel_setRow ?_ (by first | omega | (simp; done) | (refine Nat.le_trans ?_ (top_le _ _); simp; done) | (refine Nat.le_succ_of_le (Nat.le_trans ?_ (top_le _ _)); simp; done) | (refine Nat.le_trans ?_ (top_le _ _); simp only [World.size_alloc]; refine Nat.le_succ_of_le (Nat.le_trans ?_ (top_le _ _)); simp; done)) _))⟩
    refine Bool.eq_iff_iff.2 ?_
    simp
    try omega
theorem cell_any (x c : Int) (hx : -1048576 ≤ x ∧ x ≤ 1048576) (h1 : 1 ≤ c) (h2 : c ≤ 16) : Gives Try.prog 12 #[.int .i64 x, .int .i64 c] (.int .i64 (cellN x c)) := by
  obtain ⟨q, r, e1, e2, e3, b1, b2, b3, b4, b5, b6⟩ := tq x (16 * c) (by omega)
  have fin : Hid (∀ u, (r < 0 → u = (r + 16 * c) / 16) → (¬ r < 0 → u = r / 16) → u = cellN x c) := by
    intro u h3 h4
    by_cases hr : r < 0
    · exact cell16 x c h1 h2 (r + 16 * c) (q - 1) u (by rw [e3, Int.sub_mul, Int.mul_comm c 16]; omega) (by omega) (by omega) (h3 hr)
    · exact cell16 x c h1 h2 r q u (by rw [e3, Int.mul_comm c 16]) (by omega) (by omega) (h4 hr)
  clear e3 b3 b4 b5 b6
  refine Gives.mk fun w => ?_
  go_enter Try.func12, Try.ntmps12
  go_wp2
  all_goals
    go_ret
    refine ⟨ret_i64 (fin.out _ ?_ ?_), (by repeat (first | exact Below.refl _ _ | refine bel_then ?_ _ | refine bel_grow ?_ _ | refine bel_alloc ?_ _ | refine bel_drew ?_ | refine bel_set ?_ (by simp) _ | refine bel_setRow ?_ (by first | omega | (simp; done) | (refine Nat.le_trans ?_ (top_le _ _); simp; done) | (refine Nat.le_succ_of_le (Nat.le_trans ?_ (top_le _ _)); simp; done) | (refine Nat.le_trans ?_ (top_le _ _); simp only [World.size_alloc]; refine Nat.le_succ_of_le (Nat.le_trans ?_ (top_le _ _)); simp; done)) _))⟩ <;> intro _
    all_goals first | omega | (rw [Int.tdiv_eq_ediv_of_nonneg (by omega)])
theorem vOf_any (s : P3) (d : Int) (hx : (-1099511627776 ≤ s.x ∧ s.x ≤ 1099511627776) ∧ (-1099511627776 ≤ s.y ∧ s.y ≤ 1099511627776) ∧ -1099511627776 ≤ s.z ∧ s.z ≤ 1099511627776) (hd : 1 ≤ d ∧ d ≤ 16777216) : Gives Try.prog 17 #[.agg #[.int .i64 s.x, .int .i64 s.y, .int .i64 s.z], .int .i64 d] (.agg #[.int .i64 (rnP s d).x, .int .i64 (rnP s d).y, .int .i64 (rnP s d).z]) := by
  have k1 := vRound_any s.x d (by omega) (by omega) (by omega) (by omega)
  have k2 := vRound_any s.y d (by omega) (by omega) (by omega) (by omega)
  have k3 := vRound_any s.z d (by omega) (by omega) (by omega) (by omega)
  refine Gives.mk fun w => ?_
  go_enter Try.func17, Try.ntmps17
  go_upto_region 1 with (fail)
  refine wp_region_tail 13 ?_ (by kernel_rfl) (by kernel_rfl) (by kernel_rfl) (fun x => ?_) (fun x => ?_)
  rotate_left
  · simp only [List.take_succ_cons, List.take_zero]
    repeat (go_big_quiet_step (((first | with_reducible exact k1.quiet _ | with_reducible exact k1.quiet2 _ _ | with_reducible exact k2.quiet _ | with_reducible exact k2.quiet2 _ _ | with_reducible exact k3.quiet _ | with_reducible exact k3.quiet2 _ _))))
    refine wpQuiet_nil ?_
    exact rfl
  simp only [List.drop_succ_cons, List.drop_zero]
  try simp only [Act.put, List.setIfInBounds_toArray, List.set_cons_succ, List.set_cons_zero]
  go_wp2
  refine bodyPost_ret (v := .agg #[.int .i64 (rnP s d).x, .int .i64 (rnP s d).y, .int .i64 (rnP s d).z]) (by simp [results, Try.results17, go_sem, rnP]) rfl ⟨rfl, (by repeat (first | exact Below.refl _ _ | refine bel_then ?_ _ | refine bel_grow ?_ _ | refine bel_alloc ?_ _ | refine bel_drew ?_ | refine bel_set ?_ (by simp) _ | refine bel_setRow ?_ (by first | omega | (simp; done) | (refine Nat.le_trans ?_ (top_le _ _); simp; done) | (refine Nat.le_succ_of_le (Nat.le_trans ?_ (top_le _ _)); simp; done) | (refine Nat.le_trans ?_ (top_le _ _); simp only [World.size_alloc]; refine Nat.le_succ_of_le (Nat.le_trans ?_ (top_le _ _)); simp; done)) _))⟩
end Go.Proofs.Yteigionfaodafab
namespace Go.Proofs.Yteigionfaodafab
open Go.RowKit
set_option linter.unusedVariables false
set_option linter.unusedSimpArgs false
set_option linter.unnecessarySimpa false
set_option maxRecDepth 100000
/-- A texture's cells. -/
def texC (nm : ByteArray) (W H : Int) (A : Option Addr) (n c : Nat) : Array Value := #[.string nm, .int .i64 W, .int .i64 H, .slice A n c]
theorem WH_wrap {W H : Int} (h : (1 ≤ W ∧ W ≤ 16) ∧ (1 ≤ H ∧ H ≤ 16)) : wrap64 (W * H) = W * H := by
  have := WH_bd h
  exact wrap_id (by omega) (by omega)
set_option maxHeartbeats 1000000 in
theorem right_any (w : World) (nm : ByteArray) (W H : Int) (A : Option Addr) (c : Nat) (rows : List Int) (hA : IL w A rows) (hl : rows.length ≤ 1099511627776) :
    Calls Try.prog 11 #[.agg (texC nm W H A rows.length c)] w fun e w' => e = .returned (.bool (rightF W H rows)) ∧ ∃ x, w' = grow w x := by
  refine Calls.mono (R := fun e w' => e = .returned (.bool (rightF W H rows)) ∧ Below w.heap.size w w') ?_ (fun _ _ ⟨he, hb⟩ => ⟨he, grow_of hb⟩)
  unfold texC
  by_cases hs : 1 ≤ W ∧ W ≤ 16 ∧ 1 ≤ H ∧ H ≤ 16 ∧ (rows.length : Int) = W * H
  · have hwh := WH_wrap ⟨⟨hs.1, hs.2.1⟩, hs.2.2.1, hs.2.2.2.1⟩
    obtain ⟨s1, s2, s3, s4, s5⟩ := hs
    have hn : ((rows.length : Int) != W * H) = false := by simp [s5]
    have all := fun (ha : ∀ k (hk : k < rows.length), 0 ≤ rows[k] ∧ rows[k] ≤ 255) => rightF_all ⟨s1, s2, s3, s4, s5⟩ ha
    have all := Lib.hid all
    clear s5
    obtain ⟨ob, hob⟩ : ∃ o, o = rightF W H rows := ⟨_, rfl⟩
    rw [← hob]
    replace hob := Lib.hid hob
    go_enter Try.func11, Try.ntmps11
    go_wp2_with fail
    have hB0 : Below w.heap.size w (w.alloc (.cells #[.string nm, .int .i64 W, .int .i64 H, .slice A rows.length c] 27)) := bel_alloc (Below.refl _ _) _
    generalize (w.alloc (.cells #[.string nm, .int .i64 W, .int .i64 H, .slice A rows.length c] 27)) = w1 at *
    go_loopw [37] (fun i wr => ∃ k : Nat, i = .int .i64 (k : Int) ∧ k ≤ rows.length ∧ Below w.heap.size w wr ∧ Hid (∀ j (hj : j < rows.length), j < k → 0 ≤ rows[j] ∧ rows[j] ≤ 255)) (fun i _ => rows.length - (intOf i).toNat)
    case atStart => exact ⟨0, rfl, by omega, hB0, Lib.hid fun j _ h => absurd h (by omega)⟩
    case round =>
      obtain ⟨k, rfl, hk, hb, hok⟩ := hrel
      clear hB0
      by_cases hlt : k < rows.length
      · obtain ⟨b, off, rfl, hbl, c1⟩ := (hA.below hb).at_ k hlt
        have k0 : (0 : Int) ≤ (k : Int) := by omega
        have k1 : (k : Int) < (rows.length : Int) := by omega
        have kl := lit_any rows[k]
        by_cases hx : 0 ≤ rows[k] ∧ rows[k] ≤ 255
        · rw [decide_eq_true hx] at kl
          have hok' := Lib.hid (fun j (hj : j < rows.length) (h : j < k + 1) => if e : j < k then hok.out j hj e else (show 0 ≤ rows[j] ∧ rows[j] ≤ 255 by obtain rfl : j = k := (by omega); exact hx))
          clear hx
          generalize rows[k] = x at *
          clear hA
          go_wp2_with (first | (go_at_call 14; (with_reducible refine (kl.at_ _).mono ?_); rintro e w' ⟨rfl, xg, rfl⟩) | fail)
          go_roundw
          case rel => exact ⟨k + 1, by go_num, by omega, bel_grow hb xg, hok'⟩
          case measure => simp [intOf]; omega
        · rw [decide_eq_false hx] at kl
          obtain rfl : ob = false := hob.out.trans (rightF_cell hlt hx)
          clear hx
          generalize rows[k] = x at *
          clear hA
          go_wp2_with (first | (go_at_call 14; (with_reducible refine (kl.at_ _).mono ?_); rintro e w' ⟨rfl, xg, rfl⟩) | fail)
          go_ret
          exact ⟨rfl, bel_grow hb xg⟩
      · obtain rfl : k = rows.length := by omega
        obtain rfl : ob = true := hob.out.trans (all.out (fun j hj => hok.out j hj hj))
        go_wp2
        go_ret
        exact ⟨rfl, hb⟩
  · rw [rightF_size hs]
    by_cases hr : (1 ≤ W ∧ W ≤ 16) ∧ (1 ≤ H ∧ H ≤ 16)
    · have hwh := WH_wrap hr
      have hn : ((rows.length : Int) != W * H) = true := by simp; omega
      obtain ⟨⟨s1, s2⟩, s3, s4⟩ := hr
      clear hs
      go_enter Try.func11, Try.ntmps11
      go_wp2_with fail
      go_ret
      exact ⟨rfl, (by repeat (first | exact Below.refl _ _ | refine bel_then ?_ _ | refine bel_grow ?_ _ | refine bel_alloc ?_ _ | refine bel_drew ?_ | refine bel_set ?_ (by simp) _ | refine bel_setRow ?_ (by first | omega | (simp; done) | (refine Nat.le_trans ?_ (top_le _ _); simp; done) | (refine Nat.le_succ_of_le (Nat.le_trans ?_ (top_le _ _)); simp; done) | (refine Nat.le_trans ?_ (top_le _ _); simp only [World.size_alloc]; refine Nat.le_succ_of_le (Nat.le_trans ?_ (top_le _ _)); simp; done)) _))⟩
    · clear hs hA
      rcases (by omega : W < 1 ∨ (1 ≤ W ∧ 16 < W) ∨ (1 ≤ W ∧ W ≤ 16 ∧ H < 1) ∨ (1 ≤ W ∧ W ≤ 16 ∧ 1 ≤ H ∧ 16 < H)) with h1 | ⟨h1, h2⟩ | ⟨h1, h2, h3⟩ | ⟨h1, h2, h3, h4⟩
      all_goals
        clear hr
        go_enter Try.func11, Try.ntmps11
        go_wp2_with fail
        all_goals
          go_ret
          exact ⟨rfl, (by repeat (first | exact Below.refl _ _ | refine bel_then ?_ _ | refine bel_grow ?_ _ | refine bel_alloc ?_ _ | refine bel_drew ?_ | refine bel_set ?_ (by simp) _ | refine bel_setRow ?_ (by first | omega | (simp; done) | (refine Nat.le_trans ?_ (top_le _ _); simp; done) | (refine Nat.le_succ_of_le (Nat.le_trans ?_ (top_le _ _)); simp; done) | (refine Nat.le_trans ?_ (top_le _ _); simp only [World.size_alloc]; refine Nat.le_succ_of_le (Nat.le_trans ?_ (top_le _ _)); simp; done)) _))⟩
end Go.Proofs.Yteigionfaodafab
