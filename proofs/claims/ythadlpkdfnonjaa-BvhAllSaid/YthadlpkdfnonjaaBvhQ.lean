/- A tree as BvhAll looks at it: its rows, node by node, whether there are boxes or none. -/
import Derived.DeepKeys
import Derived.Test.YthadlpkdfnonjaaBvhN
import Derived.Test.YthadlpkdfnonjaaBvhO
namespace Go.Proofs.Ythadlpkdfnonjaa
open Go.RowKit
set_option linter.unusedVariables false
set_option linter.unusedSimpArgs false
set_option maxRecDepth 100000
structure AllT (W : World) (t : TrS) (B : Nat → Bx) (leaf n : Nat) (N : List Nd) (I : List Nat) : Prop where
  hs : t.s = N.length
  hn : t.n = I.length
  len : I.length = n
  nd : I.Nodup
  lt : ∀ x, x ∈ I → x < n
  nl : NdL W t.a N
  il : IL W t.b (zL I)
  sum : sumC N = n
  len2 : N.length ≤ 600
  bx : ∀ x, x ∈ N → okBx x.b = true
  ok : ∀ i (h : i < N.length), NdOk B leaf N I i N[i]
theorem allT_of {W : World} {t : TrS} {B : Nat → Bx} {leaf n : Nat} (hl : 0 < leaf) (hn : n ≤ 300) (h : TrR W t B leaf n) (hok : allOk B n = true) : ∃ I N, AllT W t B leaf n N I := by
  rcases h with ⟨rfl, rfl⟩ | ⟨h1, h2, h3, h4, h5, h6⟩
  · exact ⟨[], [], ⟨rfl, rfl, rfl, List.nodup_nil, fun x h => absurd h (by simp), fun h => absurd h (by simp), fun h => absurd h (by simp [zL]), rfl, by simp, fun x h => absurd h (by simp), fun i h => absurd h (by simp)⟩⟩
  · obtain ⟨o1, o2, o3⟩ := bvT_ok B hl h1 hn
    have e : (bvT B leaf n).its.length = n := by rw [o2.length_eq, List.length_range]
    exact ⟨(bvT B leaf n).its, (bvT B leaf n).lay B 0, ⟨by rw [h2, lay_len], by rw [h3, e], e, (o2.nodup_iff).2 List.nodup_range, fun x hx => by simpa using o2.mem_iff.1 hx, h4, h5, by rw [sumC_lay, e], by rw [lay_len]; omega, lay_ok o1 (fun i hi => (allOk_iff B n).1 hok i (by simpa using o2.mem_iff.1 hi)), fun i hi => lay_nodes B o1 i hi⟩⟩
theorem infoNdL {a b c d e f g h i j : Value} : (Try.prog.info? 66).map (·.size) = some [a, b, c, d, e, f, g, h, i, j].length := by kernel_rfl
theorem getNdAt {ops : Array Oper} {rest : List Oper} {o : Oper} {a : Act} {w : World} {Q : Exit → Act → World → Prop} (hgd : o.guard = none) (x : Operand) (ho : o.op = .load 66 x) (b off : Nat) (n : Nd) (hx : a.eval x = .pointer (some ⟨b, off, none⟩)) (h : w.rangeAt b off [.int .i64 n.b.lo.x, .int .i64 n.b.lo.y, .int .i64 n.b.lo.z, .int .i64 n.b.hi.x, .int .i64 n.b.hi.y, .int .i64 n.b.hi.z, .int .i64 (n.l : Int), .int .i64 (n.r : Int), .int .i64 (n.f : Int), .int .i64 (n.c : Int)])
    (K : wpList Try.prog ops Q rest (a.put o.dst (.agg #[.int .i64 n.b.lo.x, .int .i64 n.b.lo.y, .int .i64 n.b.lo.z, .int .i64 n.b.hi.x, .int .i64 n.b.hi.y, .int .i64 n.b.hi.z, .int .i64 (n.l : Int), .int .i64 (n.r : Int), .int .i64 (n.f : Int), .int .i64 (n.c : Int)])) w) : wpList Try.prog ops Q (o :: rest) a w := by
  refine wpList_plain hgd fun K' hK' => ?_
  have h1 := bldm_run a o w 66 x ho b off hx _ _ h Try.underlying66 rfl infoNdL
  unfold Oper.wp
  simp only [h1, Result.andThen]
  exact hK' _ _ K
theorem nd_range {w : World} {b off : Nat} {n : Nd} (h : ∀ j, j < 10 → w.cell? ⟨b, off + j, none⟩ = (nd1 n)[j]?) : w.rangeAt b off [.int .i64 n.b.lo.x, .int .i64 n.b.lo.y, .int .i64 n.b.lo.z, .int .i64 n.b.hi.x, .int .i64 n.b.hi.y, .int .i64 n.b.hi.z, .int .i64 (n.l : Int), .int .i64 (n.r : Int), .int .i64 (n.f : Int), .int .i64 (n.c : Int)] := fun j v hv => by
  have hj : j < 10 := by
    have := (List.getElem?_eq_some_iff.1 hv).1
    simpa using this
  rw [h j hj]
  match j, hj with
  | 0, _ => exact hv
  | 1, _ => exact hv
  | 2, _ => exact hv
  | 3, _ => exact hv
  | 4, _ => exact hv
  | 5, _ => exact hv
  | 6, _ => exact hv
  | 7, _ => exact hv
  | 8, _ => exact hv
  | 9, _ => exact hv
theorem qlitI (n : Nat) {a : Int} (h : i64B a) : Try.prog.keyLits (n + 1) 3 [.int .i64 a] = some [.int .i64 a] := by
  unfold Program.keyLits
  rw [Try.underlying3]
  simp [h.wf]
theorem qlitV (n : Nat) {x y z : Int} (h1 : i64B x) (h2 : i64B y) (h3 : i64B z) : Try.prog.keyLits (n + 2) 23 [.int .i64 x, .int .i64 y, .int .i64 z] = some [.int .i64 x, .int .i64 y, .int .i64 z] := by
  unfold Program.keyLits
  rw [Try.underlying23]
  have c1 := qlitI n h1
  have c2 := qlitI n h2
  have c3 := qlitI n h3
  have ci : Try.prog.cellsOf 3 = 1 := by kernel_rfl
  have cv : Try.prog.cellsOf 23 = 3 := by kernel_rfl
  simp [cv, ci, c1, c2, c3]
def litsB (b : Bx) : List Lit := [.int .i64 b.lo.x, .int .i64 b.lo.y, .int .i64 b.lo.z, .int .i64 b.hi.x, .int .i64 b.hi.y, .int .i64 b.hi.z]
theorem qlitB {b : Bx} (h : okBx b = true) : Try.prog.keyLits 12 43 (.agg #[.int .i64 b.lo.x, .int .i64 b.lo.y, .int .i64 b.lo.z, .int .i64 b.hi.x, .int .i64 b.hi.y, .int .i64 b.hi.z] : Value).cells.toList = some (litsB b) := by
  obtain ⟨h1, h2⟩ := okBx_iff.1 h
  unfold InP at h1 h2
  have c1 := qlitV 9 (x := b.lo.x) (y := b.lo.y) (z := b.lo.z) (by unfold i64B; omega) (by unfold i64B; omega) (by unfold i64B; omega)
  have c2 := qlitV 9 (x := b.hi.x) (y := b.hi.y) (z := b.hi.z) (by unfold i64B; omega) (by unfold i64B; omega) (by unfold i64B; omega)
  have cv : Try.prog.cellsOf 23 = 3 := by kernel_rfl
  have cb : Try.prog.cellsOf 43 = 6 := by kernel_rfl
  unfold Program.keyLits
  rw [Try.underlying43]
  simp [cv, cb, Value.cells, c1, c2, litsB]
theorem qformB (b : Bx) : (.agg #[.int .i64 b.lo.x, .int .i64 b.lo.y, .int .i64 b.lo.z, .int .i64 b.hi.x, .int .i64 b.hi.y, .int .i64 b.hi.z] : Value).formed Try.prog 43 = true := by rfl
theorem neBx {b : Bx} (h : okBx b = true) (w : World) : (binOp .neq 43 (.agg #[.int .i64 b.lo.x, .int .i64 b.lo.y, .int .i64 b.lo.z, .int .i64 b.hi.x, .int .i64 b.hi.y, .int .i64 b.hi.z]) (.agg #[.int .i64 b.lo.x, .int .i64 b.lo.y, .int .i64 b.lo.z, .int .i64 b.hi.x, .int .i64 b.hi.y, .int .i64 b.hi.z])).run Try.prog w = .ok (.bool false) w := by
  obtain ⟨r, hr, hi⟩ := run_equalIn_deep (P := Try.prog) 9990 10 43 (by kernel_rfl) w 12 12 _ _ _ _ (qformB b) (qformB b) (qlitB h) (qlitB h)
  rw [hi.2 rfl] at hr
  rw [run_neq_struct, hr]
  rfl
theorem quiet_neBx {ops : Array Oper} {C : World → Prop} {Q : Act → Prop} {o : Oper} {rest : List Oper} {a : Act} (x y : Operand) (ho : o.op = .binOp .neq 43 x y 43) (hg : Region.wanted o (yielded ops a.tmps) = true) (b : Bx) (hx : a.eval x = .agg #[.int .i64 b.lo.x, .int .i64 b.lo.y, .int .i64 b.lo.z, .int .i64 b.hi.x, .int .i64 b.hi.y, .int .i64 b.hi.z]) (hy : a.eval y = .agg #[.int .i64 b.lo.x, .int .i64 b.lo.y, .int .i64 b.lo.z, .int .i64 b.hi.x, .int .i64 b.hi.y, .int .i64 b.hi.z]) (hs : okBx b = true)
    (K : wpQuiet Try.prog ops C Q rest (a.put o.dst (.bool false))) : wpQuiet Try.prog ops C Q (o :: rest) a := by
  have h : ∀ u, C u → (execOp a.eval o).run Try.prog u = .ok (.value (.bool false)) u := fun w _ => by
    have := neBx hs w
    have hg := run_eqGuard_agg (P := Try.prog) (w := w) .neq 43 x y #[.int .i64 b.lo.x, .int .i64 b.lo.y, .int .i64 b.lo.z, .int .i64 b.hi.x, .int .i64 b.hi.y, .int .i64 b.hi.z] #[.int .i64 b.lo.x, .int .i64 b.lo.y, .int .i64 b.lo.z, .int .i64 b.hi.x, .int .i64 b.hi.y, .int .i64 b.hi.z] (by kernel_rfl)
    unfold execOp
    simp only [ho, hx, hy, Sem.run_bind, hg, this, Result.andThen_ok, Sem.run_pure]
  unfold wpQuiet
  rw [if_pos hg]
  exact ⟨_, fun u hu => by unfold Oper.quietAt; rw [h u hu]; exact ⟨rfl, rfl⟩, K⟩
end Go.Proofs.Ythadlpkdfnonjaa
