/- The law on edges: which part of a side an edge is. -/
import Derived.Test.YtpdnaceggpdleaaWevV
namespace Go.Proofs.Ytpdnaceggpdleaa
open Go.RowKit
set_option linter.unusedVariables false
set_option linter.unusedSimpArgs false
set_option linter.unnecessarySimpa false
set_option maxRecDepth 100000
theorem run_eqS {a : Act} {o : Oper} (x y : Operand) (ho : o.op = .binOp .eql 29 x y 29) (s u : Spt) (hx : a.eval x = sV s) (hy : a.eval y = sV u) (hs : rngS s) (hu : rngS u) (w : World) : (execOp a.eval o).run Try.prog w = .ok (.value (.bool (decide (s = u)))) w := by
  have := eqS s u hs hu w
  have hg := run_eqGuard_agg (P := Try.prog) (w := w) .eql 29 x y #[.int .i64 s.1, .int .i64 s.2.1, .int .i64 s.2.2] #[.int .i64 u.1, .int .i64 u.2.1, .int .i64 u.2.2] (by kernel_rfl)
  unfold execOp
  simp only [ho, hx, hy, Sem.run_bind, hg, this, Result.andThen_ok, Sem.run_pure]
theorem wpL_eqS {ops : Array Oper} {rest : List Oper} {o : Oper} {a : Act} {Q : Exit → Act → World → Prop} {w : World} (hg : o.guard = none) (x y : Operand) (ho : o.op = .binOp .eql 29 x y 29) (s u : Spt) (hx : a.eval x = sV s) (hy : a.eval y = sV u) (hs : rngS s) (hu : rngS u)
    (b : Bool) (hb : decide (s = u) = b) (K : wpList Try.prog ops Q rest (a.put o.dst (.bool b)) w) : wpList Try.prog ops Q (o :: rest) a w := by
  subst hb
  refine wpList_plain hg fun K' hK' => ?_
  unfold Oper.wp
  rw [run_eqS x y ho s u hx hy hs hu]
  exact hK' _ _ K
theorem wpL_eqS_g {ops : Array Oper} {rest : List Oper} {o : Oper} {a : Act} {Q : Exit → Act → World → Prop} {w : World} (hg : Region.wanted o (yielded ops a.tmps) = true) (x y : Operand) (ho : o.op = .binOp .eql 29 x y 29) (s u : Spt) (hx : a.eval x = sV s) (hy : a.eval y = sV u) (hs : rngS s) (hu : rngS u)
    (b : Bool) (hb : decide (s = u) = b) (K : wpList Try.prog ops Q rest (a.put o.dst (.bool b)) w) : wpList Try.prog ops Q (o :: rest) a w := by
  subst hb
  refine wpList_step fun K' hK' => ?_
  rw [if_pos hg]
  unfold Oper.wp
  rw [run_eqS x y ho s u hx hy hs hu]
  exact hK' _ _ K
/-- What along answers. -/
def AlongP (q : Nat → Int) (e : Edg) (x : Int) : Prop := 0 ≤ x ↔ partB (rQ q) e = true
set_option maxHeartbeats 8000000 in
theorem along_any (W : World) (q : Nat → Int) (hq : okQ q) (a b : Spt) (ha : rngS a) (hb : rngS b) :
    Calls Try.prog 11 #[.agg (q4C q), sV a, sV b] W fun e W' => ∃ x : Int, e = .returned (.int .i64 x) ∧ Below W.heap.size W W' ∧ (0 ≤ x ↔ partB (rQ q) (a, b) = true) ∧ -1 ≤ x ∧ x ≤ 100 := by
  obtain ⟨w2, hw2⟩ : ∃ w2, w2 = ((W.alloc (.cells (q4C q) 22)).alloc (.cells (spCells a) 29)).alloc (.cells (spCells b) 29) := ⟨_, rfl⟩
  have hB2 : Below W.heap.size W w2 := by rw [hw2]; exact bel_alloc (bel_alloc (bel_alloc (Below.refl _ _) _) _) _
  have hQ2 : Blk w2 W.heap.size 22 (q4C q) := by rw [hw2]; exact ((Blk.new _ _ _ _ rfl).alloc _).alloc _
  have hD2 : Blk w2 (W.heap.size + 1) 29 (spCells a) := by rw [hw2]; exact (Blk.new _ _ _ _ (by simp)).alloc _
  have hE2 : Blk w2 (W.heap.size + 1 + 1) 29 (spCells b) := by rw [hw2]; exact Blk.new _ _ _ _ (by simp)
  obtain ⟨r, hr⟩ : ∃ r, r = rQ q := ⟨_, rfl⟩
  have hrb := okQ_r hq
  have hrq := okQ_eq hq
  rw [← hr] at hrb hrq ⊢
  clear hr
  replace hrb := Lib.hid hrb
  replace hrq := Lib.hid hrq
  go_enter Try.func11, Try.ntmps11
  go_upto_region 1 with (fail)
  simp only [← hw2]
  clear hw2
  obtain ⟨z, hz⟩ : ∃ z, z = W := ⟨_, rfl⟩
  generalize W.heap.size + 1 + 1 = b5 at *
  generalize W.heap.size + 1 = b4 at *
  generalize hb3 : W.heap.size = b3 at hQ2 ⊢
  replace hb3 := Lib.hid hb3
  go_wp2
  go_loopw [7] (fun kv wr => ∃ k : Nat, kv = .int .i64 (k : Int) ∧ k ≤ 4 ∧ Hid (∀ j, j < k → ¬ InO j (r j) 0 (a, b)) ∧ Blk wr b3 22 (q4C q) ∧ Blk wr b4 29 (spCells a) ∧ Blk wr b5 29 (spCells b) ∧ Below z.heap.size z wr) (fun kv _ => 4 - (intOf kv).toNat)
  case atStart => exact ⟨0, rfl, by omega, Lib.hid fun j hj => by omega, hQ2, hD2, hE2, by rw [hz]; exact hB2⟩
  case round =>
    obtain ⟨k, rfl, hk, hno, hQ, hD, hE, hB⟩ := hrel
    by_cases hk4 : k < 4
    · have q9 : (k : Int) < 4 := by omega
      have q0 : (0 : Int) ≤ (k : Int) := by omega
      have hrk := hrb.out k hk4
      have lq := hQ.lt
      have cq : wr.cell? ⟨b3, k, none⟩ = some (.int .i64 (r k : Int)) := by
        rw [hQ.cell, ← hrq.out k hk4]
        rcases four1 hk4 with rfl | rfl | rfl | rfl <;> rfl
      go_upto_region 5 with (fail)
      clear cq lq
      obtain ⟨rk, hrke⟩ : ∃ n, n = r k := ⟨_, rfl⟩
      rw [← hrke] at hrk ⊢
      replace hrke := Lib.hid hrke
      go_wp2
      go_loopw [9] (fun iv wr => ∃ i : Nat, iv = .int .i64 (i : Int) ∧ i ≤ rk ∧ Hid (∀ j, j < i → (a, b) ≠ (outS k rk j, outS k rk (j + 1))) ∧ Blk wr b3 22 (q4C q) ∧ Blk wr b4 29 (spCells a) ∧ Blk wr b5 29 (spCells b) ∧ Below z.heap.size z wr) (fun iv _ => 20 - (intOf iv).toNat)
      case atStart => exact ⟨0, rfl, by omega, Lib.hid fun j hj => by omega, hQ, hD, hE, hB⟩
      case round =>
        clear hQ hD hE hB
        obtain ⟨i, rfl, hi, hni, hQ, hD, hE, hB⟩ := hrel
        by_cases hlt : i < rk
        · have q3 : (i : Int) < (rk : Int) := by omega
          have hrp : rngS (outS k rk i) := by
            rcases out_cases (k := k) hrk.1 (show i ≤ rk by omega) with ⟨_, e⟩ | ⟨_, e⟩ | ⟨_, _, e⟩ <;> rw [e] <;> unfold rngS i64W <;> simp only <;> omega
          have hrq2 : rngS (outS k rk (i + 1)) := by
            rcases out_cases (k := k) hrk.1 (show i + 1 ≤ rk by omega) with ⟨_, e⟩ | ⟨_, e⟩ | ⟨_, _, e⟩ <;> rw [e] <;> unfold rngS i64W <;> simp only <;> omega
          have hfound : (a = outS k rk i ∧ b = outS k rk (i + 1)) → partB r (a, b) = true := fun ⟨h1, h2⟩ => partB_iff.2 ⟨k, hk4, i, by omega, by rw [← hrke.out]; exact hlt, by rw [← hrke.out, h1, h2]⟩
          have hnext : ¬ (a = outS k rk i ∧ b = outS k rk (i + 1)) → ∀ j, j < i + 1 → (a, b) ≠ (outS k rk j, outS k rk (j + 1)) := fun hn j hj e => by
            by_cases ej : j = i
            · subst ej
              simp only [Prod.mk.injEq] at e
              exact hn e
            · exact hni.out j (by omega) e
          replace hfound := Lib.hid hfound
          replace hnext := Lib.hid hnext
          rcases (show (i = 0 ∧ i + 1 = rk) ∨ (i = 0 ∧ i + 1 < rk) ∨ (1 ≤ i ∧ i + 1 = rk) ∨ (1 ≤ i ∧ i + 1 < rk) by omega) with ⟨hi0, hi1⟩ | ⟨hi0, hi1⟩ | ⟨hi0, hi1⟩ | ⟨hi0, hi1⟩
          · have eP : outS k rk i = (1, (k : Int), 0) := by rw [hi0]; rfl
            have eQ : outS k rk (i + 1) = (1, ((k : Int) + 1) % 4, 0) := by rw [hi1, out_end hrk.1]; unfold corS; rw [show (((k + 1) % 4 : Nat) : Int) = ((k : Int) + 1) % 4 by omega]
            have f1 : ((i : Int) == 0) = true := by simp; omega
            have f2 : ((i : Int) == (rk : Int) - 1) = true := by simp; omega
            rw [eP] at hrp hfound hnext
            rw [eQ] at hrq2 hfound hnext
            clear eP eQ
            replace hi0 := Lib.hid hi0
            replace hi1 := Lib.hid hi1
            go_upto_region 14 with (fail)
            have hP8 : Blk ((wr.alloc (.cells #[.int .i64 (1), .int .i64 ((k : Int)), .int .i64 (0)] 29)).alloc (.cells #[.int .i64 (1), .int .i64 (((k : Int) + 1) % 4), .int .i64 (0)] 29)) wr.heap.size 29 #[.int .i64 (1), .int .i64 ((k : Int)), .int .i64 (0)] := (Blk.new _ _ _ _ rfl).alloc _
            have hR8 : Blk ((wr.alloc (.cells #[.int .i64 (1), .int .i64 ((k : Int)), .int .i64 (0)] 29)).alloc (.cells #[.int .i64 (1), .int .i64 (((k : Int) + 1) % 4), .int .i64 (0)] 29)) (wr.heap.size + 1) 29 #[.int .i64 (1), .int .i64 (((k : Int) + 1) % 4), .int .i64 (0)] := Blk.new _ _ _ _ (by simp)
            have hb8 : Below wr.heap.size wr ((wr.alloc (.cells #[.int .i64 (1), .int .i64 ((k : Int)), .int .i64 (0)] 29)).alloc (.cells #[.int .i64 (1), .int .i64 (((k : Int) + 1) % 4), .int .i64 (0)] 29)) := bel_alloc (bel_alloc (Below.refl _ _) _) _
            have hQ8 := hQ.below hb8
            have hD8 := hD.below hb8
            have hE8 := hE.below hb8
            have hB8 := bel_trans hB hb8
            generalize ((wr.alloc (.cells #[.int .i64 (1), .int .i64 ((k : Int)), .int .i64 (0)] 29)).alloc (.cells #[.int .i64 (1), .int .i64 (((k : Int) + 1) % 4), .int .i64 (0)] 29)) = w8 at *
            generalize wr.heap.size + 1 = g11 at *
            generalize wr.heap.size = g10 at *
            clear hQ hD hE hB hb8
            have p0 : w8.cell? ⟨g10, 0, none⟩ = some (.int .i64 (1)) := hP8.cell 0
            have r0 : w8.cell? ⟨g11, 0, none⟩ = some (.int .i64 (1)) := hR8.cell 0
            have a0 : w8.cell? ⟨b4, 0, none⟩ = some (.int .i64 a.1) := hD8.cell 0
            have d0 : w8.cell? ⟨b5, 0, none⟩ = some (.int .i64 b.1) := hE8.cell 0
            have p1 : w8.cell? ⟨g10, 1, none⟩ = some (.int .i64 ((k : Int))) := hP8.cell 1
            have r1 : w8.cell? ⟨g11, 1, none⟩ = some (.int .i64 (((k : Int) + 1) % 4)) := hR8.cell 1
            have a1 : w8.cell? ⟨b4, 1, none⟩ = some (.int .i64 a.2.1) := hD8.cell 1
            have d1 : w8.cell? ⟨b5, 1, none⟩ = some (.int .i64 b.2.1) := hE8.cell 1
            have p2 : w8.cell? ⟨g10, 2, none⟩ = some (.int .i64 (0)) := hP8.cell 2
            have r2 : w8.cell? ⟨g11, 2, none⟩ = some (.int .i64 (0)) := hR8.cell 2
            have a2 : w8.cell? ⟨b4, 2, none⟩ = some (.int .i64 a.2.2) := hD8.cell 2
            have d2 : w8.cell? ⟨b5, 2, none⟩ = some (.int .i64 b.2.2) := hE8.cell 2
            have l4 := hD8.lt
            have l5 := hE8.lt
            have l10 := hP8.lt
            have l11 := hR8.lt
            by_cases hA : a = (1, (k : Int), 0)
            · by_cases hC : b = (1, ((k : Int) + 1) % 4, 0)
              · have hf := hfound.out ⟨hA, hC⟩
                replace hf := Lib.hid hf
                replace a0 : w8.cell? ⟨b4, 0, none⟩ = some (.int .i64 (1)) := by rw [a0, hA]
                replace d0 : w8.cell? ⟨b5, 0, none⟩ = some (.int .i64 (1)) := by rw [d0, hC]
                replace a1 : w8.cell? ⟨b4, 1, none⟩ = some (.int .i64 ((k : Int))) := by rw [a1, hA]
                replace d1 : w8.cell? ⟨b5, 1, none⟩ = some (.int .i64 (((k : Int) + 1) % 4)) := by rw [d1, hC]
                replace a2 : w8.cell? ⟨b4, 2, none⟩ = some (.int .i64 (0)) := by rw [a2, hA]
                replace d2 : w8.cell? ⟨b5, 2, none⟩ = some (.int .i64 (0)) := by rw [d2, hC]
                replace hA := Lib.hid hA
                replace hC := Lib.hid hC
                go_wp2
                refine bodyPost_ret (v := .int .i64 ((k : Int) * 16 + (i : Int))) (by simp [results, Try.results11, go_sem]) rfl ⟨_, rfl, by rw [← hz]; exact hB8, ⟨fun _ => hf.out, fun _ => by omega⟩, by omega, by omega⟩
              · have hn2 := hnext.out (fun h => hC h.2)
                have hd : decide (b = (1, ((k : Int) + 1) % 4, 0)) = false := decide_eq_false hC
                replace a0 : w8.cell? ⟨b4, 0, none⟩ = some (.int .i64 (1)) := by rw [a0, hA]
                replace a1 : w8.cell? ⟨b4, 1, none⟩ = some (.int .i64 ((k : Int))) := by rw [a1, hA]
                replace a2 : w8.cell? ⟨b4, 2, none⟩ = some (.int .i64 (0)) := by rw [a2, hA]
                replace hn2 := Lib.hid hn2
                replace hA := Lib.hid hA
                replace hC := Lib.hid hC
                replace hd := Lib.hid hd
                go_wp2_with (first | (refine wpL_eqS_g rfl _ _ rfl b (1, ((k : Int) + 1) % 4, 0) rfl rfl hb hrq2 false hd.out ?_) | fail)
                go_roundw
                case rel => exact ⟨i + 1, by go_num, by omega, hn2, hQ8, hD8, hE8, hB8⟩
                case measure => simp [intOf]; omega
            · have hn2 := hnext.out (fun h => hA h.1)
              have hd : decide (a = (1, (k : Int), 0)) = false := decide_eq_false hA
              replace hn2 := Lib.hid hn2
              replace hA := Lib.hid hA
              replace hd := Lib.hid hd
              go_wp2_with (first | (refine wpL_eqS rfl _ _ rfl a (1, (k : Int), 0) rfl rfl ha hrp false hd.out ?_) | fail)
              go_roundw
              case rel => exact ⟨i + 1, by go_num, by omega, hn2, hQ8, hD8, hE8, hB8⟩
              case measure => simp [intOf]; omega
          · have eP : outS k rk i = (1, (k : Int), 0) := by rw [hi0]; rfl
            have eQ : outS k rk (i + 1) = (2, (k : Int), (i : Int) + 1) := by rw [out_mid (by omega) (by omega)]; unfold edgS; rw [show ((i + 1 : Nat) : Int) = (i : Int) + 1 by omega]
            have f1 : ((i : Int) == 0) = true := by simp; omega
            have f2 : ((i : Int) == (rk : Int) - 1) = false := by simp; omega
            rw [eP] at hrp hfound hnext
            rw [eQ] at hrq2 hfound hnext
            clear eP eQ
            replace hi0 := Lib.hid hi0
            replace hi1 := Lib.hid hi1
            go_upto_region 14 with (fail)
            have hP8 : Blk ((wr.alloc (.cells #[.int .i64 (1), .int .i64 ((k : Int)), .int .i64 (0)] 29)).alloc (.cells #[.int .i64 (2), .int .i64 ((k : Int)), .int .i64 ((i : Int) + 1)] 29)) wr.heap.size 29 #[.int .i64 (1), .int .i64 ((k : Int)), .int .i64 (0)] := (Blk.new _ _ _ _ rfl).alloc _
            have hR8 : Blk ((wr.alloc (.cells #[.int .i64 (1), .int .i64 ((k : Int)), .int .i64 (0)] 29)).alloc (.cells #[.int .i64 (2), .int .i64 ((k : Int)), .int .i64 ((i : Int) + 1)] 29)) (wr.heap.size + 1) 29 #[.int .i64 (2), .int .i64 ((k : Int)), .int .i64 ((i : Int) + 1)] := Blk.new _ _ _ _ (by simp)
            have hb8 : Below wr.heap.size wr ((wr.alloc (.cells #[.int .i64 (1), .int .i64 ((k : Int)), .int .i64 (0)] 29)).alloc (.cells #[.int .i64 (2), .int .i64 ((k : Int)), .int .i64 ((i : Int) + 1)] 29)) := bel_alloc (bel_alloc (Below.refl _ _) _) _
            have hQ8 := hQ.below hb8
            have hD8 := hD.below hb8
            have hE8 := hE.below hb8
            have hB8 := bel_trans hB hb8
            generalize ((wr.alloc (.cells #[.int .i64 (1), .int .i64 ((k : Int)), .int .i64 (0)] 29)).alloc (.cells #[.int .i64 (2), .int .i64 ((k : Int)), .int .i64 ((i : Int) + 1)] 29)) = w8 at *
            generalize wr.heap.size + 1 = g11 at *
            generalize wr.heap.size = g10 at *
            clear hQ hD hE hB hb8
            have p0 : w8.cell? ⟨g10, 0, none⟩ = some (.int .i64 (1)) := hP8.cell 0
            have r0 : w8.cell? ⟨g11, 0, none⟩ = some (.int .i64 (2)) := hR8.cell 0
            have a0 : w8.cell? ⟨b4, 0, none⟩ = some (.int .i64 a.1) := hD8.cell 0
            have d0 : w8.cell? ⟨b5, 0, none⟩ = some (.int .i64 b.1) := hE8.cell 0
            have p1 : w8.cell? ⟨g10, 1, none⟩ = some (.int .i64 ((k : Int))) := hP8.cell 1
            have r1 : w8.cell? ⟨g11, 1, none⟩ = some (.int .i64 ((k : Int))) := hR8.cell 1
            have a1 : w8.cell? ⟨b4, 1, none⟩ = some (.int .i64 a.2.1) := hD8.cell 1
            have d1 : w8.cell? ⟨b5, 1, none⟩ = some (.int .i64 b.2.1) := hE8.cell 1
            have p2 : w8.cell? ⟨g10, 2, none⟩ = some (.int .i64 (0)) := hP8.cell 2
            have r2 : w8.cell? ⟨g11, 2, none⟩ = some (.int .i64 ((i : Int) + 1)) := hR8.cell 2
            have a2 : w8.cell? ⟨b4, 2, none⟩ = some (.int .i64 a.2.2) := hD8.cell 2
            have d2 : w8.cell? ⟨b5, 2, none⟩ = some (.int .i64 b.2.2) := hE8.cell 2
            have l4 := hD8.lt
            have l5 := hE8.lt
            have l10 := hP8.lt
            have l11 := hR8.lt
            by_cases hA : a = (1, (k : Int), 0)
            · by_cases hC : b = (2, (k : Int), (i : Int) + 1)
              · have hf := hfound.out ⟨hA, hC⟩
                replace hf := Lib.hid hf
                replace a0 : w8.cell? ⟨b4, 0, none⟩ = some (.int .i64 (1)) := by rw [a0, hA]
                replace d0 : w8.cell? ⟨b5, 0, none⟩ = some (.int .i64 (2)) := by rw [d0, hC]
                replace a1 : w8.cell? ⟨b4, 1, none⟩ = some (.int .i64 ((k : Int))) := by rw [a1, hA]
                replace d1 : w8.cell? ⟨b5, 1, none⟩ = some (.int .i64 ((k : Int))) := by rw [d1, hC]
                replace a2 : w8.cell? ⟨b4, 2, none⟩ = some (.int .i64 (0)) := by rw [a2, hA]
                replace d2 : w8.cell? ⟨b5, 2, none⟩ = some (.int .i64 ((i : Int) + 1)) := by rw [d2, hC]
                replace hA := Lib.hid hA
                replace hC := Lib.hid hC
                go_wp2
                refine bodyPost_ret (v := .int .i64 ((k : Int) * 16 + (i : Int))) (by simp [results, Try.results11, go_sem]) rfl ⟨_, rfl, by rw [← hz]; exact hB8, ⟨fun _ => hf.out, fun _ => by omega⟩, by omega, by omega⟩
              · have hn2 := hnext.out (fun h => hC h.2)
                have hd : decide (b = (2, (k : Int), (i : Int) + 1)) = false := decide_eq_false hC
                replace a0 : w8.cell? ⟨b4, 0, none⟩ = some (.int .i64 (1)) := by rw [a0, hA]
                replace a1 : w8.cell? ⟨b4, 1, none⟩ = some (.int .i64 ((k : Int))) := by rw [a1, hA]
                replace a2 : w8.cell? ⟨b4, 2, none⟩ = some (.int .i64 (0)) := by rw [a2, hA]
                replace hn2 := Lib.hid hn2
                replace hA := Lib.hid hA
                replace hC := Lib.hid hC
                replace hd := Lib.hid hd
                go_wp2_with (first | (refine wpL_eqS_g rfl _ _ rfl b (2, (k : Int), (i : Int) + 1) rfl rfl hb hrq2 false hd.out ?_) | fail)
                go_roundw
                case rel => exact ⟨i + 1, by go_num, by omega, hn2, hQ8, hD8, hE8, hB8⟩
                case measure => simp [intOf]; omega
            · have hn2 := hnext.out (fun h => hA h.1)
              have hd : decide (a = (1, (k : Int), 0)) = false := decide_eq_false hA
              replace hn2 := Lib.hid hn2
              replace hA := Lib.hid hA
              replace hd := Lib.hid hd
              go_wp2_with (first | (refine wpL_eqS rfl _ _ rfl a (1, (k : Int), 0) rfl rfl ha hrp false hd.out ?_) | fail)
              go_roundw
              case rel => exact ⟨i + 1, by go_num, by omega, hn2, hQ8, hD8, hE8, hB8⟩
              case measure => simp [intOf]; omega
          · have eP : outS k rk i = (2, (k : Int), (i : Int)) := by rw [out_mid (by omega) (by omega)]; rfl
            have eQ : outS k rk (i + 1) = (1, ((k : Int) + 1) % 4, 0) := by rw [hi1, out_end hrk.1]; unfold corS; rw [show (((k + 1) % 4 : Nat) : Int) = ((k : Int) + 1) % 4 by omega]
            have f1 : ((i : Int) == 0) = false := by simp; omega
            have f2 : ((i : Int) == (rk : Int) - 1) = true := by simp; omega
            rw [eP] at hrp hfound hnext
            rw [eQ] at hrq2 hfound hnext
            clear eP eQ
            replace hi0 := Lib.hid hi0
            replace hi1 := Lib.hid hi1
            go_upto_region 14 with (fail)
            have hP8 : Blk ((wr.alloc (.cells #[.int .i64 (2), .int .i64 ((k : Int)), .int .i64 ((i : Int))] 29)).alloc (.cells #[.int .i64 (1), .int .i64 (((k : Int) + 1) % 4), .int .i64 (0)] 29)) wr.heap.size 29 #[.int .i64 (2), .int .i64 ((k : Int)), .int .i64 ((i : Int))] := (Blk.new _ _ _ _ rfl).alloc _
            have hR8 : Blk ((wr.alloc (.cells #[.int .i64 (2), .int .i64 ((k : Int)), .int .i64 ((i : Int))] 29)).alloc (.cells #[.int .i64 (1), .int .i64 (((k : Int) + 1) % 4), .int .i64 (0)] 29)) (wr.heap.size + 1) 29 #[.int .i64 (1), .int .i64 (((k : Int) + 1) % 4), .int .i64 (0)] := Blk.new _ _ _ _ (by simp)
            have hb8 : Below wr.heap.size wr ((wr.alloc (.cells #[.int .i64 (2), .int .i64 ((k : Int)), .int .i64 ((i : Int))] 29)).alloc (.cells #[.int .i64 (1), .int .i64 (((k : Int) + 1) % 4), .int .i64 (0)] 29)) := bel_alloc (bel_alloc (Below.refl _ _) _) _
            have hQ8 := hQ.below hb8
            have hD8 := hD.below hb8
            have hE8 := hE.below hb8
            have hB8 := bel_trans hB hb8
            generalize ((wr.alloc (.cells #[.int .i64 (2), .int .i64 ((k : Int)), .int .i64 ((i : Int))] 29)).alloc (.cells #[.int .i64 (1), .int .i64 (((k : Int) + 1) % 4), .int .i64 (0)] 29)) = w8 at *
            generalize wr.heap.size + 1 = g11 at *
            generalize wr.heap.size = g10 at *
            clear hQ hD hE hB hb8
            have p0 : w8.cell? ⟨g10, 0, none⟩ = some (.int .i64 (2)) := hP8.cell 0
            have r0 : w8.cell? ⟨g11, 0, none⟩ = some (.int .i64 (1)) := hR8.cell 0
            have a0 : w8.cell? ⟨b4, 0, none⟩ = some (.int .i64 a.1) := hD8.cell 0
            have d0 : w8.cell? ⟨b5, 0, none⟩ = some (.int .i64 b.1) := hE8.cell 0
            have p1 : w8.cell? ⟨g10, 1, none⟩ = some (.int .i64 ((k : Int))) := hP8.cell 1
            have r1 : w8.cell? ⟨g11, 1, none⟩ = some (.int .i64 (((k : Int) + 1) % 4)) := hR8.cell 1
            have a1 : w8.cell? ⟨b4, 1, none⟩ = some (.int .i64 a.2.1) := hD8.cell 1
            have d1 : w8.cell? ⟨b5, 1, none⟩ = some (.int .i64 b.2.1) := hE8.cell 1
            have p2 : w8.cell? ⟨g10, 2, none⟩ = some (.int .i64 ((i : Int))) := hP8.cell 2
            have r2 : w8.cell? ⟨g11, 2, none⟩ = some (.int .i64 (0)) := hR8.cell 2
            have a2 : w8.cell? ⟨b4, 2, none⟩ = some (.int .i64 a.2.2) := hD8.cell 2
            have d2 : w8.cell? ⟨b5, 2, none⟩ = some (.int .i64 b.2.2) := hE8.cell 2
            have l4 := hD8.lt
            have l5 := hE8.lt
            have l10 := hP8.lt
            have l11 := hR8.lt
            by_cases hA : a = (2, (k : Int), (i : Int))
            · by_cases hC : b = (1, ((k : Int) + 1) % 4, 0)
              · have hf := hfound.out ⟨hA, hC⟩
                replace hf := Lib.hid hf
                replace a0 : w8.cell? ⟨b4, 0, none⟩ = some (.int .i64 (2)) := by rw [a0, hA]
                replace d0 : w8.cell? ⟨b5, 0, none⟩ = some (.int .i64 (1)) := by rw [d0, hC]
                replace a1 : w8.cell? ⟨b4, 1, none⟩ = some (.int .i64 ((k : Int))) := by rw [a1, hA]
                replace d1 : w8.cell? ⟨b5, 1, none⟩ = some (.int .i64 (((k : Int) + 1) % 4)) := by rw [d1, hC]
                replace a2 : w8.cell? ⟨b4, 2, none⟩ = some (.int .i64 ((i : Int))) := by rw [a2, hA]
                replace d2 : w8.cell? ⟨b5, 2, none⟩ = some (.int .i64 (0)) := by rw [d2, hC]
                replace hA := Lib.hid hA
                replace hC := Lib.hid hC
                go_wp2
                refine bodyPost_ret (v := .int .i64 ((k : Int) * 16 + (i : Int))) (by simp [results, Try.results11, go_sem]) rfl ⟨_, rfl, by rw [← hz]; exact hB8, ⟨fun _ => hf.out, fun _ => by omega⟩, by omega, by omega⟩
              · have hn2 := hnext.out (fun h => hC h.2)
                have hd : decide (b = (1, ((k : Int) + 1) % 4, 0)) = false := decide_eq_false hC
                replace a0 : w8.cell? ⟨b4, 0, none⟩ = some (.int .i64 (2)) := by rw [a0, hA]
                replace a1 : w8.cell? ⟨b4, 1, none⟩ = some (.int .i64 ((k : Int))) := by rw [a1, hA]
                replace a2 : w8.cell? ⟨b4, 2, none⟩ = some (.int .i64 ((i : Int))) := by rw [a2, hA]
                replace hn2 := Lib.hid hn2
                replace hA := Lib.hid hA
                replace hC := Lib.hid hC
                replace hd := Lib.hid hd
                go_wp2_with (first | (refine wpL_eqS_g rfl _ _ rfl b (1, ((k : Int) + 1) % 4, 0) rfl rfl hb hrq2 false hd.out ?_) | fail)
                go_roundw
                case rel => exact ⟨i + 1, by go_num, by omega, hn2, hQ8, hD8, hE8, hB8⟩
                case measure => simp [intOf]; omega
            · have hn2 := hnext.out (fun h => hA h.1)
              have hd : decide (a = (2, (k : Int), (i : Int))) = false := decide_eq_false hA
              replace hn2 := Lib.hid hn2
              replace hA := Lib.hid hA
              replace hd := Lib.hid hd
              go_wp2_with (first | (refine wpL_eqS rfl _ _ rfl a (2, (k : Int), (i : Int)) rfl rfl ha hrp false hd.out ?_) | fail)
              go_roundw
              case rel => exact ⟨i + 1, by go_num, by omega, hn2, hQ8, hD8, hE8, hB8⟩
              case measure => simp [intOf]; omega
          · have eP : outS k rk i = (2, (k : Int), (i : Int)) := by rw [out_mid (by omega) (by omega)]; rfl
            have eQ : outS k rk (i + 1) = (2, (k : Int), (i : Int) + 1) := by rw [out_mid (by omega) (by omega)]; unfold edgS; rw [show ((i + 1 : Nat) : Int) = (i : Int) + 1 by omega]
            have f1 : ((i : Int) == 0) = false := by simp; omega
            have f2 : ((i : Int) == (rk : Int) - 1) = false := by simp; omega
            rw [eP] at hrp hfound hnext
            rw [eQ] at hrq2 hfound hnext
            clear eP eQ
            replace hi0 := Lib.hid hi0
            replace hi1 := Lib.hid hi1
            go_upto_region 14 with (fail)
            have hP8 : Blk ((wr.alloc (.cells #[.int .i64 (2), .int .i64 ((k : Int)), .int .i64 ((i : Int))] 29)).alloc (.cells #[.int .i64 (2), .int .i64 ((k : Int)), .int .i64 ((i : Int) + 1)] 29)) wr.heap.size 29 #[.int .i64 (2), .int .i64 ((k : Int)), .int .i64 ((i : Int))] := (Blk.new _ _ _ _ rfl).alloc _
            have hR8 : Blk ((wr.alloc (.cells #[.int .i64 (2), .int .i64 ((k : Int)), .int .i64 ((i : Int))] 29)).alloc (.cells #[.int .i64 (2), .int .i64 ((k : Int)), .int .i64 ((i : Int) + 1)] 29)) (wr.heap.size + 1) 29 #[.int .i64 (2), .int .i64 ((k : Int)), .int .i64 ((i : Int) + 1)] := Blk.new _ _ _ _ (by simp)
            have hb8 : Below wr.heap.size wr ((wr.alloc (.cells #[.int .i64 (2), .int .i64 ((k : Int)), .int .i64 ((i : Int))] 29)).alloc (.cells #[.int .i64 (2), .int .i64 ((k : Int)), .int .i64 ((i : Int) + 1)] 29)) := bel_alloc (bel_alloc (Below.refl _ _) _) _
            have hQ8 := hQ.below hb8
            have hD8 := hD.below hb8
            have hE8 := hE.below hb8
            have hB8 := bel_trans hB hb8
            generalize ((wr.alloc (.cells #[.int .i64 (2), .int .i64 ((k : Int)), .int .i64 ((i : Int))] 29)).alloc (.cells #[.int .i64 (2), .int .i64 ((k : Int)), .int .i64 ((i : Int) + 1)] 29)) = w8 at *
            generalize wr.heap.size + 1 = g11 at *
            generalize wr.heap.size = g10 at *
            clear hQ hD hE hB hb8
            have p0 : w8.cell? ⟨g10, 0, none⟩ = some (.int .i64 (2)) := hP8.cell 0
            have r0 : w8.cell? ⟨g11, 0, none⟩ = some (.int .i64 (2)) := hR8.cell 0
            have a0 : w8.cell? ⟨b4, 0, none⟩ = some (.int .i64 a.1) := hD8.cell 0
            have d0 : w8.cell? ⟨b5, 0, none⟩ = some (.int .i64 b.1) := hE8.cell 0
            have p1 : w8.cell? ⟨g10, 1, none⟩ = some (.int .i64 ((k : Int))) := hP8.cell 1
            have r1 : w8.cell? ⟨g11, 1, none⟩ = some (.int .i64 ((k : Int))) := hR8.cell 1
            have a1 : w8.cell? ⟨b4, 1, none⟩ = some (.int .i64 a.2.1) := hD8.cell 1
            have d1 : w8.cell? ⟨b5, 1, none⟩ = some (.int .i64 b.2.1) := hE8.cell 1
            have p2 : w8.cell? ⟨g10, 2, none⟩ = some (.int .i64 ((i : Int))) := hP8.cell 2
            have r2 : w8.cell? ⟨g11, 2, none⟩ = some (.int .i64 ((i : Int) + 1)) := hR8.cell 2
            have a2 : w8.cell? ⟨b4, 2, none⟩ = some (.int .i64 a.2.2) := hD8.cell 2
            have d2 : w8.cell? ⟨b5, 2, none⟩ = some (.int .i64 b.2.2) := hE8.cell 2
            have l4 := hD8.lt
            have l5 := hE8.lt
            have l10 := hP8.lt
            have l11 := hR8.lt
            by_cases hA : a = (2, (k : Int), (i : Int))
            · by_cases hC : b = (2, (k : Int), (i : Int) + 1)
              · have hf := hfound.out ⟨hA, hC⟩
                replace hf := Lib.hid hf
                replace a0 : w8.cell? ⟨b4, 0, none⟩ = some (.int .i64 (2)) := by rw [a0, hA]
                replace d0 : w8.cell? ⟨b5, 0, none⟩ = some (.int .i64 (2)) := by rw [d0, hC]
                replace a1 : w8.cell? ⟨b4, 1, none⟩ = some (.int .i64 ((k : Int))) := by rw [a1, hA]
                replace d1 : w8.cell? ⟨b5, 1, none⟩ = some (.int .i64 ((k : Int))) := by rw [d1, hC]
                replace a2 : w8.cell? ⟨b4, 2, none⟩ = some (.int .i64 ((i : Int))) := by rw [a2, hA]
                replace d2 : w8.cell? ⟨b5, 2, none⟩ = some (.int .i64 ((i : Int) + 1)) := by rw [d2, hC]
                replace hA := Lib.hid hA
                replace hC := Lib.hid hC
                go_wp2
                refine bodyPost_ret (v := .int .i64 ((k : Int) * 16 + (i : Int))) (by simp [results, Try.results11, go_sem]) rfl ⟨_, rfl, by rw [← hz]; exact hB8, ⟨fun _ => hf.out, fun _ => by omega⟩, by omega, by omega⟩
              · have hn2 := hnext.out (fun h => hC h.2)
                have hd : decide (b = (2, (k : Int), (i : Int) + 1)) = false := decide_eq_false hC
                replace a0 : w8.cell? ⟨b4, 0, none⟩ = some (.int .i64 (2)) := by rw [a0, hA]
                replace a1 : w8.cell? ⟨b4, 1, none⟩ = some (.int .i64 ((k : Int))) := by rw [a1, hA]
                replace a2 : w8.cell? ⟨b4, 2, none⟩ = some (.int .i64 ((i : Int))) := by rw [a2, hA]
                replace hn2 := Lib.hid hn2
                replace hA := Lib.hid hA
                replace hC := Lib.hid hC
                replace hd := Lib.hid hd
                go_wp2_with (first | (refine wpL_eqS_g rfl _ _ rfl b (2, (k : Int), (i : Int) + 1) rfl rfl hb hrq2 false hd.out ?_) | fail)
                go_roundw
                case rel => exact ⟨i + 1, by go_num, by omega, hn2, hQ8, hD8, hE8, hB8⟩
                case measure => simp [intOf]; omega
            · have hn2 := hnext.out (fun h => hA h.1)
              have hd : decide (a = (2, (k : Int), (i : Int))) = false := decide_eq_false hA
              replace hn2 := Lib.hid hn2
              replace hA := Lib.hid hA
              replace hd := Lib.hid hd
              go_wp2_with (first | (refine wpL_eqS rfl _ _ rfl a (2, (k : Int), (i : Int)) rfl rfl ha hrp false hd.out ?_) | fail)
              go_roundw
              case rel => exact ⟨i + 1, by go_num, by omega, hn2, hQ8, hD8, hE8, hB8⟩
              case measure => simp [intOf]; omega
        · obtain rfl : i = rk := by omega
          have hno2 : ∀ j, j < k + 1 → ¬ InO j (r j) 0 (a, b) := fun j hj h => by
            by_cases ej : j = k
            · subst ej
              obtain ⟨i, _, hi2, e⟩ := h
              rw [← hrke.out] at hi2 e
              exact hni.out i hi2 e
            · exact hno.out j (by omega) h
          replace hno2 := Lib.hid hno2
          clear hlt
          go_wp2
          go_roundw
          case rel => exact ⟨k + 1, by go_num, by omega, hno2, hQ, hD, hE, hB⟩
          case measure => simp [intOf]; omega
    · obtain rfl : k = 4 := by omega
      rw [show ((4 : Nat) : Int) = 4 from rfl]
      have hnp : partB r (a, b) = false := by
        cases hp : partB r (a, b) with
        | false => rfl
        | true =>
          obtain ⟨j, hj, h⟩ := partB_iff.1 hp
          exact absurd h (hno.out j hj)
      replace hnp := Lib.hid hnp
      go_wp2
      refine bodyPost_ret (v := .int .i64 (-1)) (by simp [results, Try.results11, go_sem]) rfl ⟨-1, rfl, by rw [← hz]; exact hB, ⟨fun h => by omega, fun h => by rw [hnp.out] at h; cases h⟩, by omega, by omega⟩
end Go.Proofs.Ytpdnaceggpdleaa
