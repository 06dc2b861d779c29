/- ReliefFlat holds for every input: the row, out of the walk. No condition. -/
import Derived.SizedLaws
import Derived.Test.YteigionfaodafabRows
import Derived.Test.YteigionfaodafabC4
import Derived.Test.YteigionfaodafabC6
import Derived.Test.YteigionfaodafabC7
import Derived.Test.YteigionfaodafabC8
namespace Go.Proofs.Yteigionfaodafab.reliefFlat
open Go.ChangeShapes Go.WideShapes Go.ChangeAt Go.RowKit
set_option linter.unusedVariables false
set_option linter.unusedSimpArgs false
theorem alloc_Vr (a : Act) (o : Oper) (ho : o.op = .alloc 23) (w : World) : (execOp a.eval o).run Try.prog w = .ok (.value (.pointer (some ⟨w.heap.size, 0, none⟩))) (w.alloc (.cells #[.int .i64 0, .int .i64 0, .int .i64 0] 23)) := by
  unfold execOp
  rw [ho]
  kernel_rfl
theorem keptR {W W' : World} {g : Nat} {t : TypeId} {cs : Array Value} {row : Option Nat} (h : Blk W g t cs) (hg : W.grownBy W' row) (hne : some g ≠ row) : Blk W' g t cs := (hg.block g h.lt hne).trans h
theorem ownR_set {W : World} {base : Nat} {e : TypeId} {size n : Nat} {v : Value} {xs : List Value} (h : W.ownsRow base e size v n xs) {g : Nat} (hg : g < base) (i : Nat) (u : Value) : (W.setCell ⟨g, i, none⟩ u).ownsRow base e size v n xs := by
  obtain ⟨h0, h | ⟨k, cap, cur, h1, h2, h3, h4⟩⟩ := h
  · exact ⟨h0, .inl h⟩
  · refine ⟨h0, .inr ⟨k, cap, cur, h1, h2, ?_, h4⟩⟩
    simp only [World.setCell, Array.getElem?_modify]
    rw [if_neg (by omega)]
    exact h3
set_option maxRecDepth 100000 in
set_option maxHeartbeats 8000000 in
theorem core (W : World) (p n a b n2 s p2 d : P3) (t : Int) (m : Nat) (h : Int) (hm : 1 ≤ m ∧ m ≤ 16) (ht : 0 ≤ t ∧ t ≤ 255) (v : Int) (o1 up : Bool) (hv : o1 = true → v = t)
    (kT : ∀ (W' : World) (B : Option Addr) (d : Nat), IL W' B (List.replicate m t) → Calls Try.prog 5 #[.agg #[.string ⟨#[]⟩, .int .i64 (m : Int), .int .i64 1, .slice B m d], .agg #[.int .i64 p.x, .int .i64 p.y, .int .i64 p.z]] W' fun e w' => e = .returned (.tuple #[.int .i64 v, .bool o1]) ∧ ∃ x, w' = grow W' x)
    (kW : Gives Try.prog 6 #[.agg #[.int .i64 p.x, .int .i64 p.y, .int .i64 p.z], .int .i64 65536] (.bool o1))
    (k1 : Gives Try.prog 7 #[.agg #[.int .i64 p.x, .int .i64 p.y, .int .i64 p.z], .agg #[.int .i64 n.x, .int .i64 n.y, .int .i64 n.z], .int .i64 t, .int .i64 h] (.tuple #[.agg #[.int .i64 a.x, .int .i64 a.y, .int .i64 a.z], .bool up]))
    (k2 : Gives Try.prog 8 #[.agg #[.int .i64 n.x, .int .i64 n.y, .int .i64 n.z], .int .i64 (-1)] (.agg #[.int .i64 n2.x, .int .i64 n2.y, .int .i64 n2.z]))
    (k3 : Gives Try.prog 7 #[.agg #[.int .i64 p.x, .int .i64 p.y, .int .i64 p.z], .agg #[.int .i64 n2.x, .int .i64 n2.y, .int .i64 n2.z], .int .i64 t, .int .i64 h] (.tuple #[.agg #[.int .i64 b.x, .int .i64 b.y, .int .i64 b.z], .bool up]))
    (k4 : up = true → Gives Try.prog 10 #[.agg #[.int .i64 a.x, .int .i64 a.y, .int .i64 a.z], .agg #[.int .i64 b.x, .int .i64 b.y, .int .i64 b.z]] (.agg #[.int .i64 s.x, .int .i64 s.y, .int .i64 s.z]))
    (k5 : up = true → Gives Try.prog 8 #[.agg #[.int .i64 p.x, .int .i64 p.y, .int .i64 p.z], .int .i64 2] (.agg #[.int .i64 p2.x, .int .i64 p2.y, .int .i64 p2.z]))
    (k6 : up = true → Gives Try.prog 9 #[.agg #[.int .i64 s.x, .int .i64 s.y, .int .i64 s.z], .agg #[.int .i64 p2.x, .int .i64 p2.y, .int .i64 p2.z]] (.agg #[.int .i64 d.x, .int .i64 d.y, .int .i64 d.z]))
    (k7 : up = true → Gives Try.prog 6 #[.agg #[.int .i64 d.x, .int .i64 d.y, .int .i64 d.z], .int .i64 1] (.bool true)) :
    Calls Try.prog 3 #[.agg #[.int .i64 p.x, .int .i64 p.y, .int .i64 p.z], .agg #[.int .i64 n.x, .int .i64 n.y, .int .i64 n.z], .int .i64 t, .int .i64 (m : Int), .int .i64 h] W fun e w' => e = .returned (.bool true) ∧ Below W.heap.size W w' := by
  have al := alive14_any
  obtain ⟨m1, m2⟩ := hm
  obtain ⟨t1, t2⟩ := ht
  have m3 : (1 : Int) ≤ (m : Int) := by omega
  have m4 : (m : Int) ≤ 16 := by omega
  --BEGIN core
  go_enter Try.func3, Try.ntmps3
  go_upto_region 1 with (fail)
  have hB : Below W.heap.size W ((W.alloc (.cells #[.int .i64 p.x, .int .i64 p.y, .int .i64 p.z] 23)).alloc (.cells #[.int .i64 n.x, .int .i64 n.y, .int .i64 n.z] 23)) := bel_alloc (bel_alloc (Below.refl _ _) _) _
  have pu : Blk ((W.alloc (.cells #[.int .i64 p.x, .int .i64 p.y, .int .i64 p.z] 23)).alloc (.cells #[.int .i64 n.x, .int .i64 n.y, .int .i64 n.z] 23)) (W.heap.size) 23 #[.int .i64 p.x, .int .i64 p.y, .int .i64 p.z] := (Blk.new _ _ _ _ rfl).alloc _
  have pn : Blk ((W.alloc (.cells #[.int .i64 p.x, .int .i64 p.y, .int .i64 p.z] 23)).alloc (.cells #[.int .i64 n.x, .int .i64 n.y, .int .i64 n.z] 23)) (W.heap.size + 1) 23 #[.int .i64 n.x, .int .i64 n.y, .int .i64 n.z] := Blk.new _ _ _ _ (by simp)
  generalize ((W.alloc (.cells #[.int .i64 p.x, .int .i64 p.y, .int .i64 p.z] 23)).alloc (.cells #[.int .i64 n.x, .int .i64 n.y, .int .i64 n.z] 23)) = W0 at *
  have pul := pu.lt
  have puc0 := pu.cell 0
  have puc1 := pu.cell 1
  have puc2 := pu.cell 2
  have pnl := pn.lt
  have pnc0 := pn.cell 0
  have pnc1 := pn.cell 1
  have pnc2 := pn.cell 2
  go_upto_region 6 with (first | (go_at_call 4; first | ((with_reducible refine (al.at_ _).mono ?_); rintro e w' ⟨rfl, xa, rfl⟩)) | fail)
  have hgT : W.heap.size + 1 < (grow W0 xa).heap.size := (pn.grow xa).lt
  have hB_ : Below W.heap.size W ((grow W0 xa).alloc (.cells #[.string ⟨#[]⟩, .int .i64 (m : Int), .int .i64 1, .slice none 0 0] 27)) := bel_alloc (bel_grow hB xa) _
  have pt : Blk ((grow W0 xa).alloc (.cells #[.string ⟨#[]⟩, .int .i64 (m : Int), .int .i64 1, .slice none 0 0] 27)) (grow W0 xa).heap.size 27 #[.string ⟨#[]⟩, .int .i64 (m : Int), .int .i64 1, .slice none 0 0] := Blk.new _ _ _ _ rfl
  replace pu := (pu.grow xa).alloc (.cells #[.string ⟨#[]⟩, .int .i64 (m : Int), .int .i64 1, .slice none 0 0] 27)
  replace pn := (pn.grow xa).alloc (.cells #[.string ⟨#[]⟩, .int .i64 (m : Int), .int .i64 1, .slice none 0 0] 27)
  clear pul puc0 puc1 puc2 pnl pnc0 pnc1 pnc2
  replace hB := hB_
  clear hB_
  generalize ((grow W0 xa).alloc (.cells #[.string ⟨#[]⟩, .int .i64 (m : Int), .int .i64 1, .slice none 0 0] 27)) = W1 at *
  generalize (grow W0 xa).heap.size = gT at *
  have pul := pu.lt
  have puc0 := pu.cell 0
  have puc1 := pu.cell 1
  have puc2 := pu.cell 2
  have pnl := pn.lt
  have pnc0 := pn.cell 0
  have pnc1 := pn.cell 1
  have pnc2 := pn.cell 2
  have ptl := pt.lt
  have ptc0 := pt.cell 0
  have ptc1 := pt.cell 1
  have ptc2 := pt.cell 2
  have ptc3 := pt.cell 3
  clear pul puc0 puc1 puc2 pnl pnc0 pnc1 pnc2 ptl ptc0 ptc1 ptc2 ptc3
  have hgW := pt.lt
  obtain ⟨i0, hi0, hz0, hz1, hz2⟩ := info_parts infoI
  obtain ⟨base, hbase⟩ : ∃ b, b = W1.heap.size := ⟨_, rfl⟩
  go_wp2_with fail
  go_loopw [12] (fun iv wr => ∃ k : Nat, iv = .int .i64 (k : Int) ∧ k ≤ m ∧ Below W.heap.size W wr ∧ base ≤ wr.heap.size ∧ Blk wr W.heap.size 23 #[.int .i64 p.x, .int .i64 p.y, .int .i64 p.z] ∧ Blk wr (W.heap.size + 1) 23 #[.int .i64 n.x, .int .i64 n.y, .int .i64 n.z] ∧ ∃ A c, Blk wr gT 27 #[.string ⟨#[]⟩, .int .i64 (m : Int), .int .i64 1, .slice A k c] ∧ wr.ownsRow base 3 1 (.slice A k c) k (ints (List.replicate k t))) (fun iv _ => m - (intOf iv).toNat)
  case atStart => exact ⟨0, rfl, by omega, hB, by omega, pu, pn, none, 0, pt, ⟨rfl, .inl ⟨rfl, rfl⟩⟩⟩
  case round =>
    clear hB pu pn pt
    obtain ⟨k, rfl, hk, hB, hbs, pu, pn, A, c, pt, hown⟩ := hrel
    have hgb : gT < base := by omega
    clear hgW hbase
    rename World => wr
    have pul := pu.lt
    have puc0 := pu.cell 0
    have puc1 := pu.cell 1
    have puc2 := pu.cell 2
    have pnl := pn.lt
    have pnc0 := pn.cell 0
    have pnc1 := pn.cell 1
    have pnc2 := pn.cell 2
    have ptl := pt.lt
    have ptc0 := pt.cell 0
    have ptc1 := pt.cell 1
    have ptc2 := pt.cell 2
    have ptc3 := pt.cell 3
    by_cases hlt : k < m
    · have hlt' : (k : Int) < (m : Int) := by omega
      have hown' := own_lay hown (bel_alloc (Below.refl _ _) (.cells #[.int .i64 t] 3))
      have hcells : ∀ j u, ([Value.int .i64 t] : List Value)[j]? = some u → (wr.alloc (.cells #[.int .i64 t] 3)).cell? ((⟨wr.heap.size, 0, none⟩ : Addr).add j) = some u := fun j u hu => by
        rw [addr_addR, Nat.zero_add, (Blk.new wr 3 #[.int .i64 t] _ rfl).cell]
        simpa using hu
      have h1c : ∀ u ∈ ([Value.int .i64 t] : List Value), u.oneCell' = true := fun u hu => by simp at hu; subst hu; rfl
      have hob := own_block hown'
      have hBa := bel_alloc hB (.cells #[.int .i64 t] 3)
      have hsz : base ≤ (wr.alloc (.cells #[.int .i64 t] 3)).heap.size := by simp; omega
      go_wp2_with (first | (at_builtin; (refine wpList_append_own _ rfl _ _ 25 rfl base 3 i0 _ 1 8 Try.underlying25 hi0 hz0 hz1 hz2 rfl (by decide) _ _ _ rfl hown' ⟨wr.heap.size, 0, none⟩ 1 1 [.int .i64 t] rfl rfl hcells h1c (by unfold maxLen; omega) (by omega) hsz ?_); intro v3 W3 hown3 hg3 hnil; obtain ⟨A3, c3, rfl⟩ := own_form hown3; have qt := keptR (pt.alloc (.cells #[.int .i64 t] 3)) hg3 (fun e => by have := (hob _ e.symm).1; omega); have qtl := qt.lt; have qtf := qt.frozen 3; have qtc := qt.cell 3) | fail)
      have hB3 := bel_own hBa hg3 (fun j e => by have := (hob j e).1; omega)
      have pp3 := (keptR (pu.alloc (.cells #[.int .i64 t] 3)) hg3 (fun e => by have := (hob _ e.symm).1; omega)).far 3 (.slice A3 (k + 1) c3) (b := gT) (by omega)
      have pn3 := (keptR (pn.alloc (.cells #[.int .i64 t] 3)) hg3 (fun e => by have := (hob _ e.symm).1; omega)).far 3 (.slice A3 (k + 1) c3) (b := gT) (by omega)
      have pt3 := qt.set 3 (.slice A3 (k + 1) c3)
      have ho3 := ownR_set hown3 hgb 3 (.slice A3 (k + 1) c3)
      rw [show ints (List.replicate k t) ++ [Value.int .i64 t] = ints (List.replicate (k + 1) t) by simp [ints, List.replicate_succ']] at ho3
      have hs3 : base ≤ (W3.setCell ⟨gT, 3, none⟩ (.slice A3 (k + 1) c3)).heap.size := by
        have := hg3.size
        simp only [World.setCell, Array.size_modify]
        omega
      go_roundw
      case rel => exact ⟨k + 1, by go_num, by omega, bel_set hB3 (by show W.heap.size ≤ gT; omega) _, hs3, pp3, pn3, A3, c3, by simpa using pt3, ho3⟩
      case measure => simp [intOf]; omega
    · obtain rfl : k = m := by omega
      have hA : IL wr A (List.replicate k t) := ilR_own (ns := List.replicate k t) (by simpa using hown)
      clear hown hbs
      go_upto_region 11 with (first | (go_at_call 5; (with_reducible refine (kT _ _ _ hA).mono ?_); rintro e w' ⟨rfl, xb, rfl⟩) | fail)
      cases o1
      · clear hv
        go_upto_region 13 with (first | (go_at_call 6; first | ((with_reducible refine (kW.at_ _).mono ?_); rintro e w' ⟨rfl, xc, rfl⟩)) | fail)
        go_upto_region 14 with (first | (go_at_call 7; first | ((with_reducible refine (k1.at_ _).mono ?_); rintro e w' ⟨rfl, xd, rfl⟩)) | fail)
        have hB_ : Below W.heap.size W ((grow wr ((xb.then xc).then xd)).alloc (.cells #[.int .i64 a.x, .int .i64 a.y, .int .i64 a.z] 23)) := bel_alloc (bel_grow hB ((xb.then xc).then xd)) _
        have pa : Blk ((grow wr ((xb.then xc).then xd)).alloc (.cells #[.int .i64 a.x, .int .i64 a.y, .int .i64 a.z] 23)) (grow wr ((xb.then xc).then xd)).heap.size 23 #[.int .i64 a.x, .int .i64 a.y, .int .i64 a.z] := Blk.new _ _ _ _ rfl
        replace pu := (pu.grow ((xb.then xc).then xd)).alloc (.cells #[.int .i64 a.x, .int .i64 a.y, .int .i64 a.z] 23)
        replace pn := (pn.grow ((xb.then xc).then xd)).alloc (.cells #[.int .i64 a.x, .int .i64 a.y, .int .i64 a.z] 23)
        replace pt := (pt.grow ((xb.then xc).then xd)).alloc (.cells #[.int .i64 a.x, .int .i64 a.y, .int .i64 a.z] 23)
        clear pul puc0 puc1 puc2 pnl pnc0 pnc1 pnc2 ptl ptc0 ptc1 ptc2 ptc3
        replace hB := hB_
        clear hB_
        generalize ((grow wr ((xb.then xc).then xd)).alloc (.cells #[.int .i64 a.x, .int .i64 a.y, .int .i64 a.z] 23)) = W4 at *
        generalize (grow wr ((xb.then xc).then xd)).heap.size = n4 at *
        have pul := pu.lt
        have puc0 := pu.cell 0
        have puc1 := pu.cell 1
        have puc2 := pu.cell 2
        have pnl := pn.lt
        have pnc0 := pn.cell 0
        have pnc1 := pn.cell 1
        have pnc2 := pn.cell 2
        have ptl := pt.lt
        have ptc0 := pt.cell 0
        have ptc1 := pt.cell 1
        have ptc2 := pt.cell 2
        have ptc3 := pt.cell 3
        have pal := pa.lt
        have pac0 := pa.cell 0
        have pac1 := pa.cell 1
        have pac2 := pa.cell 2
        clear k1
        refine wp_region_mid 9 ?_ 17 (.cells #[.int .i64 0, .int .i64 0, .int .i64 0] 23) (.cells #[.int .i64 b.x, .int .i64 b.y, .int .i64 b.z] 23) (by kernel_rfl) (by kernel_rfl) (by kernel_rfl) (fun d hd => by cases hd; exact ⟨_, rfl, rfl, rfl, fun A u => alloc_Vr A _ rfl u⟩) (fun pp => ?_) (fun pp => ?_) (fun pp => ⟨?_, ?_, fun x => ?_, fun qq => ?_⟩)
        rotate_left
        · simp only [List.take_succ_cons, List.take_zero]
          repeat (go_big_quiet_step (((first | with_reducible exact k2.quiet _ | with_reducible exact k2.quiet2 _ _ | with_reducible exact k3.quiet _ | with_reducible exact k3.quiet2 _ _))))
          refine wpQuiet_nil ?_
          exact rfl
        · exact ⟨_, rfl, storeAt_row 23 _ _ _ _ rfl rfl rfl rfl rfl (by kernel_rfl) rfl (by first | kernel_rfl | simp [Value.oneCell'] | (simp only [List.all_toArray, Array.all]; rfl))⟩
        rotate_left
        · kernel_rfl
        · simp only [List.drop_succ_cons, List.drop_zero]
          try simp only [Act.put, List.setIfInBounds_toArray, List.set_cons_succ, List.set_cons_zero]
          repeat (go_big_quiet_step ((fail)))
          refine wpQuiet_nil ?_
          exact rfl
        have hB_ : Below W.heap.size W ((grow W4 pp).alloc (.cells #[.int .i64 b.x, .int .i64 b.y, .int .i64 b.z] 23)) := bel_alloc (bel_grow hB pp) _
        have pb : Blk ((grow W4 pp).alloc (.cells #[.int .i64 b.x, .int .i64 b.y, .int .i64 b.z] 23)) (grow W4 pp).heap.size 23 #[.int .i64 b.x, .int .i64 b.y, .int .i64 b.z] := Blk.new _ _ _ _ rfl
        replace pu := (pu.grow pp).alloc (.cells #[.int .i64 b.x, .int .i64 b.y, .int .i64 b.z] 23)
        replace pn := (pn.grow pp).alloc (.cells #[.int .i64 b.x, .int .i64 b.y, .int .i64 b.z] 23)
        replace pt := (pt.grow pp).alloc (.cells #[.int .i64 b.x, .int .i64 b.y, .int .i64 b.z] 23)
        replace pa := (pa.grow pp).alloc (.cells #[.int .i64 b.x, .int .i64 b.y, .int .i64 b.z] 23)
        clear pul puc0 puc1 puc2 pnl pnc0 pnc1 pnc2 ptl ptc0 ptc1 ptc2 ptc3 pal pac0 pac1 pac2
        replace hB := hB_
        clear hB_
        generalize ((grow W4 pp).alloc (.cells #[.int .i64 b.x, .int .i64 b.y, .int .i64 b.z] 23)) = W5 at *
        generalize (grow W4 pp).heap.size = n5 at *
        have pul := pu.lt
        have puc0 := pu.cell 0
        have puc1 := pu.cell 1
        have puc2 := pu.cell 2
        have pnl := pn.lt
        have pnc0 := pn.cell 0
        have pnc1 := pn.cell 1
        have pnc2 := pn.cell 2
        have ptl := pt.lt
        have ptc0 := pt.cell 0
        have ptc1 := pt.cell 1
        have ptc2 := pt.cell 2
        have ptc3 := pt.cell 3
        have pal := pa.lt
        have pac0 := pa.cell 0
        have pac1 := pa.cell 1
        have pac2 := pa.cell 2
        have pbl := pb.lt
        have pbc0 := pb.cell 0
        have pbc1 := pb.cell 1
        have pbc2 := pb.cell 2
        go_upto_region 17 with (fail)
        cases up
        · clear k4 k5 k6 k7 k2 k3 kT kW
          refine wp_region_grow (by kernel_rfl) (by kernel_rfl) ?_
          repeat (go_big_quiet_step (((fail))))
          refine wpQuiet_nil ?_
          rintro _ ⟨xg, rfl⟩
          go_wp2
          go_ret
          exact ⟨rfl, bel_trans hB (by repeat (first | exact Below.refl _ _ | refine bel_then ?_ _ | refine bel_grow ?_ _ | refine bel_alloc ?_ _ | refine bel_drew ?_ | refine bel_set ?_ (by simp) _ | refine bel_setRow ?_ (by first | omega | (simp; done) | (refine Nat.le_trans ?_ (top_le _ _); simp; done) | (refine Nat.le_succ_of_le (Nat.le_trans ?_ (top_le _ _)); simp; done) | (refine Nat.le_trans ?_ (top_le _ _); simp only [World.size_alloc]; refine Nat.le_succ_of_le (Nat.le_trans ?_ (top_le _ _)); simp; done)) _))⟩
        · replace k4 := k4 rfl
          replace k5 := k5 rfl
          replace k6 := k6 rfl
          replace k7 := k7 rfl
          refine wp_region_grow (by kernel_rfl) (by kernel_rfl) ?_
          repeat (go_big_quiet_step (((first | with_reducible exact k4.quiet _ | with_reducible exact k4.quiet2 _ _ | with_reducible exact k5.quiet _ | with_reducible exact k5.quiet2 _ _ | with_reducible exact k6.quiet _ | with_reducible exact k6.quiet2 _ _ | with_reducible exact k7.quiet _ | with_reducible exact k7.quiet2 _ _))))
          refine wpQuiet_nil ?_
          rintro _ ⟨xg, rfl⟩
          go_wp2
          go_ret
          exact ⟨rfl, bel_trans hB (by repeat (first | exact Below.refl _ _ | refine bel_then ?_ _ | refine bel_grow ?_ _ | refine bel_alloc ?_ _ | refine bel_drew ?_ | refine bel_set ?_ (by simp) _ | refine bel_setRow ?_ (by first | omega | (simp; done) | (refine Nat.le_trans ?_ (top_le _ _); simp; done) | (refine Nat.le_succ_of_le (Nat.le_trans ?_ (top_le _ _)); simp; done) | (refine Nat.le_trans ?_ (top_le _ _); simp only [World.size_alloc]; refine Nat.le_succ_of_le (Nat.le_trans ?_ (top_le _ _)); simp; done)) _))⟩
      · obtain rfl := hv rfl
        go_upto_region 13 with (first | (go_at_call 6; first | ((with_reducible refine (kW.at_ _).mono ?_); rintro e w' ⟨rfl, xc, rfl⟩)) | fail)
        go_upto_region 14 with (first | (go_at_call 7; first | ((with_reducible refine (k1.at_ _).mono ?_); rintro e w' ⟨rfl, xd, rfl⟩)) | fail)
        have hB_ : Below W.heap.size W ((grow wr (xb.then xd)).alloc (.cells #[.int .i64 a.x, .int .i64 a.y, .int .i64 a.z] 23)) := bel_alloc (bel_grow hB (xb.then xd)) _
        have pa : Blk ((grow wr (xb.then xd)).alloc (.cells #[.int .i64 a.x, .int .i64 a.y, .int .i64 a.z] 23)) (grow wr (xb.then xd)).heap.size 23 #[.int .i64 a.x, .int .i64 a.y, .int .i64 a.z] := Blk.new _ _ _ _ rfl
        replace pu := (pu.grow (xb.then xd)).alloc (.cells #[.int .i64 a.x, .int .i64 a.y, .int .i64 a.z] 23)
        replace pn := (pn.grow (xb.then xd)).alloc (.cells #[.int .i64 a.x, .int .i64 a.y, .int .i64 a.z] 23)
        replace pt := (pt.grow (xb.then xd)).alloc (.cells #[.int .i64 a.x, .int .i64 a.y, .int .i64 a.z] 23)
        clear pul puc0 puc1 puc2 pnl pnc0 pnc1 pnc2 ptl ptc0 ptc1 ptc2 ptc3
        replace hB := hB_
        clear hB_
        generalize ((grow wr (xb.then xd)).alloc (.cells #[.int .i64 a.x, .int .i64 a.y, .int .i64 a.z] 23)) = W4 at *
        generalize (grow wr (xb.then xd)).heap.size = n4 at *
        have pul := pu.lt
        have puc0 := pu.cell 0
        have puc1 := pu.cell 1
        have puc2 := pu.cell 2
        have pnl := pn.lt
        have pnc0 := pn.cell 0
        have pnc1 := pn.cell 1
        have pnc2 := pn.cell 2
        have ptl := pt.lt
        have ptc0 := pt.cell 0
        have ptc1 := pt.cell 1
        have ptc2 := pt.cell 2
        have ptc3 := pt.cell 3
        have pal := pa.lt
        have pac0 := pa.cell 0
        have pac1 := pa.cell 1
        have pac2 := pa.cell 2
        clear k1
        refine wp_region_mid 9 ?_ 17 (.cells #[.int .i64 0, .int .i64 0, .int .i64 0] 23) (.cells #[.int .i64 b.x, .int .i64 b.y, .int .i64 b.z] 23) (by kernel_rfl) (by kernel_rfl) (by kernel_rfl) (fun d hd => by cases hd; exact ⟨_, rfl, rfl, rfl, fun A u => alloc_Vr A _ rfl u⟩) (fun pp => ?_) (fun pp => ?_) (fun pp => ⟨?_, ?_, fun x => ?_, fun qq => ?_⟩)
        rotate_left
        · simp only [List.take_succ_cons, List.take_zero]
          repeat (go_big_quiet_step (((first | with_reducible exact k2.quiet _ | with_reducible exact k2.quiet2 _ _ | with_reducible exact k3.quiet _ | with_reducible exact k3.quiet2 _ _))))
          refine wpQuiet_nil ?_
          exact rfl
        · exact ⟨_, rfl, storeAt_row 23 _ _ _ _ rfl rfl rfl rfl rfl (by kernel_rfl) rfl (by first | kernel_rfl | simp [Value.oneCell'] | (simp only [List.all_toArray, Array.all]; rfl))⟩
        rotate_left
        · kernel_rfl
        · simp only [List.drop_succ_cons, List.drop_zero]
          try simp only [Act.put, List.setIfInBounds_toArray, List.set_cons_succ, List.set_cons_zero]
          repeat (go_big_quiet_step ((fail)))
          refine wpQuiet_nil ?_
          exact rfl
        have hB_ : Below W.heap.size W ((grow W4 pp).alloc (.cells #[.int .i64 b.x, .int .i64 b.y, .int .i64 b.z] 23)) := bel_alloc (bel_grow hB pp) _
        have pb : Blk ((grow W4 pp).alloc (.cells #[.int .i64 b.x, .int .i64 b.y, .int .i64 b.z] 23)) (grow W4 pp).heap.size 23 #[.int .i64 b.x, .int .i64 b.y, .int .i64 b.z] := Blk.new _ _ _ _ rfl
        replace pu := (pu.grow pp).alloc (.cells #[.int .i64 b.x, .int .i64 b.y, .int .i64 b.z] 23)
        replace pn := (pn.grow pp).alloc (.cells #[.int .i64 b.x, .int .i64 b.y, .int .i64 b.z] 23)
        replace pt := (pt.grow pp).alloc (.cells #[.int .i64 b.x, .int .i64 b.y, .int .i64 b.z] 23)
        replace pa := (pa.grow pp).alloc (.cells #[.int .i64 b.x, .int .i64 b.y, .int .i64 b.z] 23)
        clear pul puc0 puc1 puc2 pnl pnc0 pnc1 pnc2 ptl ptc0 ptc1 ptc2 ptc3 pal pac0 pac1 pac2
        replace hB := hB_
        clear hB_
        generalize ((grow W4 pp).alloc (.cells #[.int .i64 b.x, .int .i64 b.y, .int .i64 b.z] 23)) = W5 at *
        generalize (grow W4 pp).heap.size = n5 at *
        have pul := pu.lt
        have puc0 := pu.cell 0
        have puc1 := pu.cell 1
        have puc2 := pu.cell 2
        have pnl := pn.lt
        have pnc0 := pn.cell 0
        have pnc1 := pn.cell 1
        have pnc2 := pn.cell 2
        have ptl := pt.lt
        have ptc0 := pt.cell 0
        have ptc1 := pt.cell 1
        have ptc2 := pt.cell 2
        have ptc3 := pt.cell 3
        have pal := pa.lt
        have pac0 := pa.cell 0
        have pac1 := pa.cell 1
        have pac2 := pa.cell 2
        have pbl := pb.lt
        have pbc0 := pb.cell 0
        have pbc1 := pb.cell 1
        have pbc2 := pb.cell 2
        go_upto_region 17 with (fail)
        cases up
        · clear k4 k5 k6 k7 k2 k3 kT kW
          refine wp_region_grow (by kernel_rfl) (by kernel_rfl) ?_
          repeat (go_big_quiet_step (((fail))))
          refine wpQuiet_nil ?_
          rintro _ ⟨xg, rfl⟩
          go_wp2
          go_ret
          exact ⟨rfl, bel_trans hB (by repeat (first | exact Below.refl _ _ | refine bel_then ?_ _ | refine bel_grow ?_ _ | refine bel_alloc ?_ _ | refine bel_drew ?_ | refine bel_set ?_ (by simp) _ | refine bel_setRow ?_ (by first | omega | (simp; done) | (refine Nat.le_trans ?_ (top_le _ _); simp; done) | (refine Nat.le_succ_of_le (Nat.le_trans ?_ (top_le _ _)); simp; done) | (refine Nat.le_trans ?_ (top_le _ _); simp only [World.size_alloc]; refine Nat.le_succ_of_le (Nat.le_trans ?_ (top_le _ _)); simp; done)) _))⟩
        · replace k4 := k4 rfl
          replace k5 := k5 rfl
          replace k6 := k6 rfl
          replace k7 := k7 rfl
          refine wp_region_grow (by kernel_rfl) (by kernel_rfl) ?_
          repeat (go_big_quiet_step (((first | with_reducible exact k4.quiet _ | with_reducible exact k4.quiet2 _ _ | with_reducible exact k5.quiet _ | with_reducible exact k5.quiet2 _ _ | with_reducible exact k6.quiet _ | with_reducible exact k6.quiet2 _ _ | with_reducible exact k7.quiet _ | with_reducible exact k7.quiet2 _ _))))
          refine wpQuiet_nil ?_
          rintro _ ⟨xg, rfl⟩
          go_wp2
          go_ret
          exact ⟨rfl, bel_trans hB (by repeat (first | exact Below.refl _ _ | refine bel_then ?_ _ | refine bel_grow ?_ _ | refine bel_alloc ?_ _ | refine bel_drew ?_ | refine bel_set ?_ (by simp) _ | refine bel_setRow ?_ (by first | omega | (simp; done) | (refine Nat.le_trans ?_ (top_le _ _); simp; done) | (refine Nat.le_succ_of_le (Nat.le_trans ?_ (top_le _ _)); simp; done) | (refine Nat.le_trans ?_ (top_le _ _); simp only [World.size_alloc]; refine Nat.le_succ_of_le (Nat.le_trans ?_ (top_le _ _)); simp; done)) _))⟩
  --END core
set_option maxRecDepth 100000 in
set_option maxHeartbeats 4000000 in
theorem walk (W : World) (p : P3) (kp : I3 p) (n : P3) (kn : I3 n) (t : Int) (ht : -9223372036854775808 ≤ t ∧ t ≤ 9223372036854775807) (z : Int) (hz : -9223372036854775808 ≤ z ∧ z ≤ 9223372036854775807) (h : Int) (hh : -9223372036854775808 ≤ h ∧ h ≤ 9223372036854775807) :
    Calls Try.prog 3 #[.agg #[.int .i64 p.x, .int .i64 p.y, .int .i64 p.z], .agg #[.int .i64 n.x, .int .i64 n.y, .int .i64 n.z], .int .i64 t, .int .i64 z, .int .i64 h] W fun e w' => e = .returned (.bool true) ∧ Below W.heap.size W w' := by
  by_cases hg : (1 ≤ z ∧ z ≤ 16) ∧ 0 ≤ t ∧ t ≤ 255
  · obtain ⟨hz', ht'⟩ := hg
    obtain ⟨m, rfl⟩ : ∃ m : Nat, z = (m : Int) := ⟨z.toNat, by omega⟩
    have hm : 1 ≤ m ∧ m ≤ 16 := by omega
    obtain ⟨e1, e2⟩ := flat_tex hm ht' p
    have kT := fun (W' : World) (B : Option Addr) (d : Nat) (hB : IL W' B (List.replicate m t)) => texel_any W' ⟨#[]⟩ (m : Int) 1 B d (List.replicate m t) hB (by simp; omega) p
    unfold texC at kT
    rw [e1] at kT
    simp only [List.length_replicate] at kT
    have k3 := lift_any p (ngW n) t h ht hh
    rw [ngW_lfK kn] at k3
    exact core W p n (lfP p n t h) (lfP p (ngW n) t h) (ngW n) (adE (lfP p n t h) (lfP p (ngW n) t h)) (scE p 2) (twoD p n t h) t m h hm ht' (texV (m : Int) 1 (List.replicate m t) p) (wi p) (lfK p n t h) (fun e => by rw [e2, e]; rfl) kT (vWithin_any p.x p.y p.z 65536 (by omega)) (lift_any p n t h ht hh) (rScale_any n.x n.y n.z (-1)) k3
      (fun e => rAdd_r ((two_sub kn e).1.up (by omega)))
      (fun e => by
        have k := rScale_any p.x p.y p.z 2
        obtain ⟨h1, h2, h3⟩ := (two_sub kn e).2
        unfold scE at h1 h2 h3
        simp only [] at h1 h2 h3
        rw [wrap_id (x := p.x * 2) (by omega) (by omega), wrap_id (x := p.y * 2) (by omega) (by omega), wrap_id (x := p.z * 2) (by omega) (by omega)] at k
        exact k)
      (fun e => by
        have k := rSub_any (adE (lfP p n t h) (lfP p (ngW n) t h)).x (adE (lfP p n t h) (lfP p (ngW n) t h)).y (adE (lfP p n t h) (lfP p (ngW n) t h)).z (scE p 2).x (scE p 2).y (scE p 2).z
        obtain ⟨⟨h1, h2, h3⟩, h4, h5, h6⟩ := two_sub kn e
        rw [wrap_id (by omega) (by omega), wrap_id (by omega) (by omega), wrap_id (by omega) (by omega)] at k
        exact k)
      (fun e => by
        have k := vWithin_any (twoD p n t h).x (twoD p n t h).y (twoD p n t h).z 1 (by omega)
        rw [two_in kn e] at k
        exact k)
  · have al := alive14_any
    rcases (by omega : z < 1 ∨ (1 ≤ z ∧ 16 < z) ∨ (1 ≤ z ∧ z ≤ 16 ∧ t < 0) ∨ (1 ≤ z ∧ z ≤ 16 ∧ 0 ≤ t ∧ 255 < t)) with g1 | ⟨g1, g2⟩ | ⟨g1, g2, g3⟩ | ⟨g1, g2, g3, g4⟩
    all_goals
      clear hg
      go_enter Try.func3, Try.ntmps3
      go_wp2_with (first | (go_at_call 4; (with_reducible refine (al.at_ _).mono ?_); rintro e w' ⟨rfl, xa, rfl⟩) | fail)
      go_ret
      exact ⟨rfl, (by repeat (first | exact Below.refl _ _ | refine bel_then ?_ _ | refine bel_grow ?_ _ | refine bel_alloc ?_ _ | refine bel_drew ?_ | refine bel_set ?_ (by simp) _ | refine bel_setRow ?_ (by first | omega | (simp; done) | (refine Nat.le_trans ?_ (top_le _ _); simp; done) | (refine Nat.le_succ_of_le (Nat.le_trans ?_ (top_le _ _)); simp; done) | (refine Nat.le_trans ?_ (top_le _ _); simp only [World.size_alloc]; refine Nat.le_succ_of_le (Nat.le_trans ?_ (top_le _ _)); simp; done)) _))⟩

theorem own : ownKnob Try.prog.godebug = none := by kernel_rfl
set_option maxRecDepth 100000 in
theorem lifted (os : Os) (started : os.Started) (H : Type) (enc : TypeId × Value → H) :
    ReturnsInHanded {} Try.checked os 3 .any (Rows.reliefFlatSpec.pre6 enc Try.prog Try.f3 Rows.reliefFlatRow.domain false) (Rows.reliefFlatSpec.post enc Try.prog Try.f3 false true false false) := by
  refine returnsInHanded_of_change_sized (C := Try.checked) own started (by kernel_rfl) Try.func3
    (ChangeSpec.witness6 (enc := enc) (C := Try.checked) false ⟨#[], #[.agg #[.int .i64 0, .int .i64 0, .int .i64 0], .agg #[.int .i64 0, .int .i64 0, .int .i64 0], .int .i64 0, .int .i64 0, .int .i64 0], []⟩ 12 (by kernel_rfl) (by kernel_rfl) (by kernel_rfl) (by kernel_rfl)) ?_
  intro W base args ds gs before hval0 hW hcnd hwt _
  have hval : ∀ (j : Nat) t v, Try.f3.params[j]? = some t → args[j]? = some v → Value.okWide Try.prog W .any base t v := hval0
  have hW' := hW
  obtain ⟨p, q, hA0, hV, rfl, hfz, hnd⟩ := hW
  have hA : DataW.TrodAll enc Try.prog W 0 (fun _ => true) true Try.f3.params.toList args.toList ds p := hA0
  rw [Try.params3] at hA hval
  obtain ⟨v0, vs0, d0, ds0, p0, q0, hargs, rfl, rfl, h0, r0⟩ := trodAll_cons hA
  obtain ⟨v1, vs1, d1, ds1, p1, q1, rfl, rfl, rfl, h1, r1⟩ := trodAll_cons r0
  obtain ⟨v2, vs2, d2, ds2, p2, q2, rfl, rfl, rfl, h2, r2⟩ := trodAll_cons r1
  obtain ⟨v3, vs3, d3, ds3, p3, q3, rfl, rfl, rfl, h3, r3⟩ := trodAll_cons r2
  obtain ⟨v4, vs4, d4, ds4, p4, q4, rfl, rfl, rfl, h4, r4⟩ := trodAll_cons r3
  obtain ⟨rfl, rfl, rfl⟩ := trodAll_nil r4
  obtain rfl : args = #[v0, v1, v2, v3, v4] := by cases args; simp_all
  obtain ⟨a0, rfl, k0⟩ := open_P (hval 0 23 v0 rfl rfl) h0
  obtain ⟨a1, rfl, k1⟩ := open_P (hval 1 23 v1 rfl rfl) h1
  obtain ⟨a2, rfl, b2⟩ := open_int64 (hval 2 3 v2 rfl rfl) h2
  obtain ⟨a3, rfl, b3⟩ := open_int64 (hval 3 3 v3 rfl rfl) h3
  obtain ⟨a4, rfl, b4⟩ := open_int64 (hval 4 3 v4 rfl rfl) h4
  refine (walk W a0 k0 a1 k1 a2 b2 a3 b3 a4 b4).mono fun e W' ⟨he, hb⟩ => ?_
  subst he
  exact ⟨_, rfl, law_post (tb := 4) (by kernel_rfl) (by kernel_rfl) rfl rfl Try.underlying4 rfl rfl rfl hW' hb⟩

theorem over : Rows.reliefFlatRow.holds Try.pinned (OpenSpec.ofChange Rows.reliefFlatSpec) :=
  OpenClaim.holds_of_wide 3 Try.f3 rfl rfl rfl rfl rfl rfl rfl ⟨rfl, rfl, rfl, rfl, rfl⟩ rfl rfl rfl rfl rfl (by kernel_rfl) Try.func3 (by kernel_rfl)
    (of_decide_eq_true (by kernel_rfl)) (by unfold Func.isWrapper; first | (rw [if_pos (by decide +kernel)]; kernel_rfl) | (rw [if_neg (by decide +kernel)]; exact ⟨rfl, rfl⟩))
    (fun os started H enc _ => lifted os started H enc)

theorem proved : Rows.ReliefFlatSaid :=
  over
#print axioms proved
end Go.Proofs.Yteigionfaodafab.reliefFlat
