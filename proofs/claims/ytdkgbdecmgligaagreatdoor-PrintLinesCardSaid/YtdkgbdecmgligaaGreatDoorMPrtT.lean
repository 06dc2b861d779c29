/- The program's placed: has each cage a skin, and is each place of a skin one there is? -/
import Derived.Test.YtdkgbdecmgligaaGreatDoorMPrtK
import Derived.Test.YtdkgbdecmgligaaGreatDoorPrtH
import Derived.Test.YtdkgbdecmgligaaGreatDoorMPrtM
import Derived.Lib.ItoaNum
import Derived.Test.YtdkgbdecmgligaaGreatDoorMScnDE
namespace Go.Proofs.YtdkgbdecmgligaaGreatDoor
open Go.RowKit
set_option linter.unusedVariables false
set_option linter.unusedSimpArgs false
set_option linter.unnecessarySimpa false
theorem tells_yes {P : Program} {f : FuncId} {args : Array Value} {W : World} {p : Prop} (hp : p) (h : Calls P f args W fun e w' => e = .returned (.bool true) ∧ Below W.heap.size W w') : Tells P f args W p :=
  h.mono fun e w' ⟨e1, e2⟩ => ⟨true, e1, ⟨fun _ => hp, fun _ => rfl⟩, e2⟩
def lostQ (nM nT : Nat) (q : Wd × List Int) : Prop := q.2.getD 0 0 < 0 ∨ (nM : Int) ≤ q.2.getD 0 0 ∨ q.2.getD 3 0 < -1 ∨ (nT : Int) ≤ q.2.getD 3 0
set_option maxRecDepth 100000 in
set_option maxHeartbeats 2000000 in
theorem lost_w {q nM nT cM cT : Nat} {aM aT : Option Addr} {W : World} (nm : Wd) (mt lv un tx0 ht : Int) (hq : q < W.heap.size) (c20 : W.cell? ⟨q, 20, none⟩ = some (.slice aM nM cM)) (c21 : W.cell? ⟨q, 21, none⟩ = some (.slice aT nT cT)) :
    Tells Tryz.prog 23 #[.agg #[.string ⟨nm.toArray⟩, .int .i64 mt, .int .i64 lv, .int .i64 un, .int .i64 tx0, .int .i64 ht], .pointer (some ⟨q, 0, none⟩)] W (lostQ nM nT (nm, [mt, lv, un, tx0, ht])) := by
  have hL : lostQ nM nT (nm, [mt, lv, un, tx0, ht]) ↔ (mt < 0 ∨ (nM : Int) ≤ mt ∨ tx0 < -1 ∨ (nT : Int) ≤ tx0) := Iff.rfl
  refine Tells.iff ?_ hL.symm
  clear hL
  have hb2 : Below W.heap.size W (W.alloc (.cells #[.string ⟨nm.toArray⟩, .int .i64 mt, .int .i64 lv, .int .i64 un, .int .i64 tx0, .int .i64 ht] 55)) := bel_alloc (Below.refl _ _) _
  have d20 := (hb2.cell (p := ⟨q, 20, none⟩) hq).trans c20
  have d21 := (hb2.cell (p := ⟨q, 21, none⟩) hq).trans c21
  clear c20 c21
  by_cases h1 : mt < 0
  · refine tells_yes (.inl h1) ?_
    go_enter Tryz.func23, Tryz.ntmps23
    go_wp2_with fail
    go_ret
    exact ⟨rfl, hb2⟩
  · by_cases h2 : (nM : Int) ≤ mt
    · refine tells_yes (.inr (.inl h2)) ?_
      go_enter Tryz.func23, Tryz.ntmps23
      go_wp2_with fail
      go_ret
      exact ⟨rfl, hb2⟩
    · by_cases h3 : tx0 < -1
      · refine tells_yes (.inr (.inr (.inl h3))) ?_
        go_enter Tryz.func23, Tryz.ntmps23
        go_wp2_with fail
        go_ret
        exact ⟨rfl, hb2⟩
      · by_cases h4 : (nT : Int) ≤ tx0
        · refine tells_yes (.inr (.inr (.inr h4))) ?_
          go_enter Tryz.func23, Tryz.ntmps23
          go_wp2_with fail
          go_ret
          exact ⟨rfl, hb2⟩
        · refine tells_no (by omega) ?_
          go_enter Tryz.func23, Tryz.ntmps23
          go_wp2_with fail
          go_ret
          exact ⟨rfl, hb2⟩
set_option maxRecDepth 100000 in
set_option maxHeartbeats 2000000 in
theorem index_w {base n c q nM nT cM cT : Nat} {A aM aT : Option Addr} {W : World} (ps : List (Wd × List Int)) (hn : ps.length = n) (hp : ∀ q ∈ ps, q.2.length = 5) (hm : n ≤ 1048576) (hbs : base ≤ W.heap.size) (hA : RB base 6 W A (ps.map sRow)) (hq : q < W.heap.size) (c20 : W.cell? ⟨q, 20, none⟩ = some (.slice aM nM cM)) (c21 : W.cell? ⟨q, 21, none⟩ = some (.slice aT nT cT)) :
    Calls Tryz.prog 57 #[.slice A n c, .func (Fn.func 23) #[] #[.pointer (some ⟨q, 0, none⟩)]] W fun e w' => ∃ r : Int, e = .returned (.int .i64 r) ∧ (0 ≤ r ↔ ∃ q ∈ ps, lostQ nM nT q) ∧ Below W.heap.size W w' := by
  go_enter Tryz.func57, Tryz.ntmps57
  go_wp2_with fail
  go_loopw [8] (fun i wr => ∃ (j : Nat), i = .int .i64 (j : Int) ∧ j ≤ n ∧ (∀ q ∈ ps.take j, ¬ lostQ nM nT q) ∧ Hid (Below W.heap.size W wr)) (fun i _ => n - (intOf i).toNat)
  case atStart => exact ⟨0, rfl, by omega, fun q hq => (by simp at hq), Lib.hid (Below.refl _ _)⟩
  case round =>
    obtain ⟨j, rfl, hj, hT, hBr⟩ := hrel
    by_cases hlt : j < n
    · have h1 : j < ps.length := by omega
      obtain ⟨b, off, rfl, hbl, hr⟩ := (hA.frb (FrB.of hbs hBr.out)).range j (by simpa using h1)
      have hl5 := hp ps[j] (List.getElem_mem h1)
      have hmem := List.getElem_mem h1
      have k0 : (0 : Int) ≤ (j : Int) := by omega
      have k1 : (j : Int) < (n : Int) := by omega
      have hT2 : ¬ lostQ nM nT ps[j] → ∀ q ∈ ps.take (j + 1), ¬ lostQ nM nT q := fun h q hq => by
        rw [List.take_succ_eq_append_getElem h1] at hq
        rcases List.mem_append.1 hq with hq | hq
        · exact hT q hq
        · simp at hq; subst hq; exact h
      rw [List.getElem_map] at hr
      clear hA hT
      generalize ps[j] = p1 at *
      obtain ⟨nm, mt, lv, un, tx0, ht, rfl⟩ : ∃ nm mt lv un tx0 ht, p1 = (nm, [mt, lv, un, tx0, ht]) := by
        match p1, hl5 with
        | (nm, [mt, lv, un, tx0, ht]), _ => exact ⟨nm, mt, lv, un, tx0, ht, rfl⟩
      replace hr : wr.rangeAt b (off + j * 6) [.string ⟨nm.toArray⟩, .int .i64 mt, .int .i64 lv, .int .i64 un, .int .i64 tx0, .int .i64 ht] := hr
      have hqr : q < wr.heap.size := Nat.lt_of_lt_of_le hq hBr.out.size
      have C := lost_w nm mt lv un tx0 ht hqr ((hBr.out.cell (p := ⟨q, 20, none⟩) hq).trans c20) ((hBr.out.cell (p := ⟨q, 21, none⟩) hq).trans c21)
      replace hr := Lib.hid hr
      by_cases hxy : lostQ nM nT (nm, [mt, lv, un, tx0, ht])
      · replace C := Lib.hid (C.yes hxy)
        have hex : ∃ q ∈ ps, lostQ nM nT q := ⟨_, hmem, hxy⟩
        replace hex := Lib.hid hex
        clear hxy hT2 c20 c21 hmem
        go_wp2_with (first | (refine wpList_load_mid rfl 55 _ rfl b (off + j * 6) rfl [.string ⟨nm.toArray⟩, .int .i64 mt, .int .i64 lv, .int .i64 un, .int .i64 tx0, .int .i64 ht] _ hr.out Tryz.underlying55 rfl infoSk6 ?_) | (go_at_call 23; (with_reducible refine Calls.mono C.out ?_); rintro e W1 ⟨rfl, hB3⟩))
        go_ret
        exact ⟨(j : Int), rfl, ⟨fun _ => hex.out, fun _ => k0⟩, hBr.out.trans (hB3.mono hBr.out.size)⟩
      · replace C := Lib.hid (C.no hxy)
        have hno := Lib.hid (hT2 hxy)
        clear hxy hT2 hmem
        have e20 := Lib.hid c20
        have e21 := Lib.hid c21
        clear c20 c21
        go_wp2_with (first | (refine wpList_load_mid rfl 55 _ rfl b (off + j * 6) rfl [.string ⟨nm.toArray⟩, .int .i64 mt, .int .i64 lv, .int .i64 un, .int .i64 tx0, .int .i64 ht] _ hr.out Tryz.underlying55 rfl infoSk6 ?_) | (go_at_call 23; (with_reducible refine Calls.mono C.out ?_); rintro e W1 ⟨rfl, hB3⟩))
        go_roundw
        case rel => exact ⟨j + 1, by go_num, by omega, hno.out, Lib.hid (hBr.out.trans (hB3.mono hBr.out.size))⟩
        case measure => simp [intOf] <;> omega
    · obtain rfl : j = n := by omega
      rw [List.take_of_length_le (by omega)] at hT
      go_wp2_with fail
      go_ret
      exact ⟨-1, rfl, ⟨fun h => (by omega), fun h => (by obtain ⟨q, h1, h2⟩ := h; exact absurd h2 (hT q h1))⟩, hBr.out⟩
set_option maxRecDepth 100000 in
set_option maxHeartbeats 2000000 in
theorem contains_w {base n c q nM nT cM cT : Nat} {A aM aT : Option Addr} {W : World} (ps : List (Wd × List Int)) (hn : ps.length = n) (hp : ∀ q ∈ ps, q.2.length = 5) (hm : n ≤ 1048576) (hbs : base ≤ W.heap.size) (hA : RB base 6 W A (ps.map sRow)) (hq : q < W.heap.size) (c20 : W.cell? ⟨q, 20, none⟩ = some (.slice aM nM cM)) (c21 : W.cell? ⟨q, 21, none⟩ = some (.slice aT nT cT)) :
    Tells Tryz.prog 24 #[.slice A n c, .func (Fn.func 23) #[] #[.pointer (some ⟨q, 0, none⟩)]] W (∃ q ∈ ps, lostQ nM nT q) := by
  have C := Lib.hid (index_w (c := c) ps hn hp hm hbs hA hq c20 c21)
  clear hA c20 c21
  unfold Tells
  go_enter Tryz.func24, Tryz.ntmps24
  go_wp2_with (go_at_call 57; (with_reducible refine Calls.mono C.out ?_); rintro e W1 ⟨r, rfl, hr, hB3⟩)
  go_ret
  exact ⟨decide (0 ≤ r), rfl, by simpa using hr, hB3⟩
theorem placed_iff (gs : GS) : placedG gs ↔ gs.cages.length = gs.skins.length ∧ ¬ ∃ q ∈ gs.skins, lostQ gs.mats.length gs.texs.length q := by
  unfold placedG lostQ
  constructor
  · rintro ⟨h1, h2⟩
    refine ⟨h1, fun ⟨q, hq, h⟩ => ?_⟩
    have := h2 q hq
    omega
  · rintro ⟨h1, h2⟩
    refine ⟨h1, fun q hq => ?_⟩
    have h3 : ¬ (q.2.getD 0 0 < 0 ∨ (gs.mats.length : Int) ≤ q.2.getD 0 0 ∨ q.2.getD 3 0 < -1 ∨ (gs.texs.length : Int) ≤ q.2.getD 3 0) := fun h => h2 ⟨q, hq, h⟩
    omega
set_option maxRecDepth 100000 in
set_option maxHeartbeats 4000000 in
theorem placed_w {base cL cM cT cS cC : Nat} {aL aM aT aS aC : Option Addr} {W : World} (gs : GS) (hw : WfG gs) (hbs : base ≤ W.heap.size) (hb : SB base W gs aL aM aT aS aC) (hC : gs.cages.length ≤ 1048576) (a0 a1 a2 a3 a4 a5 a6 a7 a8 a9 a10 a11 a12 a13 a14 a15 s0 s1 s2 : Int) :
    Tells Tryz.prog 13 #[.agg #[.int .i64 a0, .int .i64 a1, .int .i64 a2, .int .i64 a3, .int .i64 a4, .int .i64 a5, .int .i64 a6, .int .i64 a7, .int .i64 a8, .int .i64 a9, .int .i64 a10, .int .i64 a11, .int .i64 a12, .int .i64 a13, .int .i64 a14, .int .i64 a15, .int .i64 s0, .int .i64 s1, .int .i64 s2, .slice aL gs.lights.length cL, .slice aM gs.mats.length cM, .slice aT gs.texs.length cT, .slice aS gs.skins.length cS, .slice aC gs.cages.length cC]] W (placedG gs) := by
  have hmf : ∀ (fn : Fn) (first cap : Array Value) (w : World), (Instr.makeFunc fn first cap).run Tryz.prog w = .ok (.func fn first cap) w := fun _ _ _ _ => rfl
  refine Tells.iff ?_ (placed_iff gs).symm
  obtain ⟨nL, hnL⟩ : ∃ n, gs.lights.length = n := ⟨_, rfl⟩
  obtain ⟨nM, hnM⟩ : ∃ n, gs.mats.length = n := ⟨_, rfl⟩
  obtain ⟨nT, hnT⟩ : ∃ n, gs.texs.length = n := ⟨_, rfl⟩
  obtain ⟨nS, hnS⟩ : ∃ n, gs.skins.length = n := ⟨_, rfl⟩
  obtain ⟨nC, hnC⟩ : ∃ n, gs.cages.length = n := ⟨_, rfl⟩
  rw [hnL, hnM, hnT, hnS, hnC]
  obtain ⟨PP, hPP⟩ : ∃ PP : Prop, PP ↔ (nC = nS ∧ ¬ ∃ q ∈ gs.skins, lostQ nM nT q) := ⟨_, Iff.rfl⟩
  refine Tells.iff ?_ hPP
  replace hPP := Lib.hid hPP
  have hb2 : Below W.heap.size W (W.alloc (.cells #[.int .i64 a0, .int .i64 a1, .int .i64 a2, .int .i64 a3, .int .i64 a4, .int .i64 a5, .int .i64 a6, .int .i64 a7, .int .i64 a8, .int .i64 a9, .int .i64 a10, .int .i64 a11, .int .i64 a12, .int .i64 a13, .int .i64 a14, .int .i64 a15, .int .i64 s0, .int .i64 s1, .int .i64 s2, .slice aL nL cL, .slice aM nM cM, .slice aT nT cT, .slice aS nS cS, .slice aC nC cC] 34)) := bel_alloc (Below.refl _ _) _
  have KA : Blk (W.alloc (.cells #[.int .i64 a0, .int .i64 a1, .int .i64 a2, .int .i64 a3, .int .i64 a4, .int .i64 a5, .int .i64 a6, .int .i64 a7, .int .i64 a8, .int .i64 a9, .int .i64 a10, .int .i64 a11, .int .i64 a12, .int .i64 a13, .int .i64 a14, .int .i64 a15, .int .i64 s0, .int .i64 s1, .int .i64 s2, .slice aL nL cL, .slice aM nM cM, .slice aT nT cT, .slice aS nS cS, .slice aC nC cC] 34)) W.heap.size 34 #[.int .i64 a0, .int .i64 a1, .int .i64 a2, .int .i64 a3, .int .i64 a4, .int .i64 a5, .int .i64 a6, .int .i64 a7, .int .i64 a8, .int .i64 a9, .int .i64 a10, .int .i64 a11, .int .i64 a12, .int .i64 a13, .int .i64 a14, .int .i64 a15, .int .i64 s0, .int .i64 s1, .int .i64 s2, .slice aL nL cL, .slice aM nM cM, .slice aT nT cT, .slice aS nS cS, .slice aC nC cC] := Blk.new _ _ _ _ rfl
  have hA0 := hb.frb (FrB.of hbs hb2)
  have hbs1 := Nat.le_trans hbs hb2.size
  have mS := hw.ns
  have pS := fun z (hz : z ∈ gs.skins) => (hw.ps z hz).2.1
  clear hb hw
  unfold Tells
  go_enter Tryz.func13, Tryz.ntmps13
  go_upto_region 1 with fail
  generalize Value.agg #[.int .i64 a0, .int .i64 a1, .int .i64 a2, .int .i64 a3, .int .i64 a4, .int .i64 a5, .int .i64 a6, .int .i64 a7, .int .i64 a8, .int .i64 a9, .int .i64 a10, .int .i64 a11, .int .i64 a12, .int .i64 a13, .int .i64 a14, .int .i64 a15, .int .i64 s0, .int .i64 s1, .int .i64 s2, .slice aL nL cL, .slice aM nM cM, .slice aT nT cT, .slice aS nS cS, .slice aC nC cC] = PA
  generalize hV : W.alloc (.cells #[.int .i64 a0, .int .i64 a1, .int .i64 a2, .int .i64 a3, .int .i64 a4, .int .i64 a5, .int .i64 a6, .int .i64 a7, .int .i64 a8, .int .i64 a9, .int .i64 a10, .int .i64 a11, .int .i64 a12, .int .i64 a13, .int .i64 a14, .int .i64 a15, .int .i64 s0, .int .i64 s1, .int .i64 s2, .slice aL nL cL, .slice aM nM cM, .slice aT nT cT, .slice aS nS cS, .slice aC nC cC] 34) = V at *
  clear hV
  obtain ⟨q, hq⟩ : ∃ q, q = W.heap.size := ⟨_, rfl⟩
  rw [← hq] at KA
  try rw [← hq]
  clear hq
  have hql := KA.lt
  have c20 : V.cell? ⟨q, 20, none⟩ = some (.slice aM nM cM) := KA.cell 20
  have c21 : V.cell? ⟨q, 21, none⟩ = some (.slice aT nT cT) := KA.cell 21
  have c22 : V.cell? ⟨q, 22, none⟩ = some (.slice aS nS cS) := KA.cell 22
  have c23 : V.cell? ⟨q, 23, none⟩ = some (.slice aC nC cC) := KA.cell 23
  have C := contains_w (c := cS) gs.skins hnS pS (by omega) hbs1 hA0.rs hql c20 c21
  clear KA hA0 c20 c21
  replace hb2 := Lib.hid hb2
  by_cases h1 : nC = nS
  · subst h1
    by_cases h2 : ∃ q ∈ gs.skins, lostQ nM nT q
    · replace C := Lib.hid (C.yes h2)
      go_wp2_with (go_at_call 24; (with_reducible refine Calls.mono C.out ?_); rintro e W1 ⟨rfl, hB3⟩)
      go_ret
      exact ⟨false, rfl, ⟨fun h => (by cases h), fun h => absurd h2 (hPP.out.1 h).2⟩, hb2.out.trans (hB3.mono hb2.out.size)⟩
    · replace C := Lib.hid (C.no h2)
      have h2' := Lib.hid h2
      clear h2
      go_wp2_with (go_at_call 24; (with_reducible refine Calls.mono C.out ?_); rintro e W1 ⟨rfl, hB3⟩)
      go_ret
      exact ⟨true, rfl, ⟨fun h => hPP.out.2 ⟨by first | rfl | trivial, h2'.out⟩, fun _ => rfl⟩, hb2.out.trans (hB3.mono hb2.out.size)⟩
  · have h1' : ¬ (nC : Int) = (nS : Int) := by omega
    clear C
    go_wp2_with fail
    go_ret
    exact ⟨false, rfl, ⟨fun h => (by cases h), fun h => absurd (hPP.out.1 h).1 h1⟩, hb2.out⟩
end Go.Proofs.YtdkgbdecmgligaaGreatDoor

/- What strconv.Itoa shows is a number's word (math). -/
namespace Go.Proofs.YtdkgbdecmgligaaGreatDoor
open Go.RowKit
set_option linter.unusedVariables false
set_option linter.unusedSimpArgs false
set_option linter.unnecessarySimpa false
theorem dec_dg (m : Nat) : Lib.decDigits m = (dgB m).reverse.map fun n => UInt8.ofNat n := by
  induction m using Nat.strongRecOn with
  | _ m ih =>
    rw [Lib.decDigits]
    by_cases q : m < 10
    · rw [dif_pos q, dgB_one q]; rfl
    · rw [dif_neg q, dgB_more q, ih (m / 10) (by omega)]
      simp
theorem itoa_sh (n : Int) : Lib.itoa n = shW n := by
  have e : shW n = (showL n).map fun n => UInt8.ofNat n := textOf_list _
  rw [e]
  unfold Lib.itoa showL
  split
  · rw [dec_dg]; simp
  · rw [dec_dg, show n.toNat = n.natAbs by omega]; simp
end Go.Proofs.YtdkgbdecmgligaaGreatDoor

/- A scene that was read, as the program's writer and its comparisons see it. -/
namespace Go.Proofs.YtdkgbdecmgligaaGreatDoor
open Go.RowKit
set_option linter.unusedVariables false
set_option linter.unusedSimpArgs false
set_option linter.unnecessarySimpa false
theorem Kp.up {b1 b2 : Nat} {W : World} {b : Nat} (h : Kp b1 W b) (hb : b1 ≤ b2) : Kp b2 W b := ⟨h.1, h.2.imp (fun q => by omega) id⟩
theorem NFB.up {b1 b2 : Nat} {W : World} {A : Option Addr} {ns : List Int} (h : NFB b1 W A ns) (hb : b1 ≤ b2) : NFB b2 W A ns := fun h0 => by
  obtain ⟨b, off, e, k, r⟩ := h h0
  exact ⟨b, off, e, k.up hb, r⟩
theorem RB.up {b1 b2 sz : Nat} {W : World} {A : Option Addr} {rows : List (List Value)} (h : RB b1 sz W A rows) (hb : b1 ≤ b2) : RB b2 sz W A rows := fun h0 => by
  obtain ⟨b, off, e, k, r⟩ := h h0
  exact ⟨b, off, e, k.up hb, r⟩
theorem FRB.up {b1 b2 : Nat} {W : World} {A : Option Addr} {ps : List (List Int)} (h : FRB b1 W A ps) (hb : b1 ≤ b2) : FRB b2 W A ps := fun h0 => by
  obtain ⟨b, off, e, k, r⟩ := h h0
  refine ⟨b, off, e, k.up hb, fun i hi => ?_⟩
  obtain ⟨B, m, h1, h2⟩ := r i hi
  exact ⟨B, m, h1, h2.up hb⟩
theorem TRB.up {b1 b2 : Nat} {W : World} {A : Option Addr} {ps : List (Wd × List Int)} (h : TRB b1 W A ps) (hb : b1 ≤ b2) : TRB b2 W A ps := fun h0 => by
  obtain ⟨b, off, e, k, r⟩ := h h0
  refine ⟨b, off, e, k.up hb, fun i hi => ?_⟩
  obtain ⟨B, m, h1, h2⟩ := r i hi
  exact ⟨B, m, h1, h2.up hb⟩
theorem CB.up {b1 b2 : Nat} {W : World} {A1 A2 A3 : Option Addr} {c : CageM} (h : CB b1 W A1 A2 A3 c) (hb : b1 ≤ b2) : CB b2 W A1 A2 A3 c :=
  ⟨h.pv, h.pf, h.pc, h.nv, h.nf, h.nc, h.rv.up hb, h.rf.up hb, h.rc.up hb⟩
theorem CRB.up {b1 b2 : Nat} {W : World} {A : Option Addr} {cs : List CageM} (h : CRB b1 W A cs) (hb : b1 ≤ b2) : CRB b2 W A cs := fun h0 => by
  obtain ⟨b, off, e, k, r⟩ := h h0
  refine ⟨b, off, e, k.up hb, fun i hi => ?_⟩
  obtain ⟨A1, A2, A3, c1, c2, c3, h1, h2⟩ := r i hi
  exact ⟨A1, A2, A3, c1, c2, c3, h1, h2.up hb⟩
theorem SB.up {b1 b2 : Nat} {W : World} {gs : GS} {aL aM aT aS aC : Option Addr} (h : SB b1 W gs aL aM aT aS aC) (hb : b1 ≤ b2) : SB b2 W gs aL aM aT aS aC :=
  ⟨h.rl.up hb, h.rm.up hb, h.rt.up hb, h.rs.up hb, h.rc.up hb⟩
theorem RB_of_CF {W : World} {A : Option Addr} {α : Type} (f : α → List Value) (sz : Nat) (hf : ∀ a, (f a).length = sz) (h0 : 0 < sz) (l : List α) (h : CF W A (l.flatMap f)) : RB W.heap.size sz W A (l.map f) := fun hl => by
  have hl' : 0 < l.length := by simpa using hl
  have hlen := flat_len f sz hf l
  obtain ⟨b, off, e, hb, hc⟩ := h (by rw [hlen]; exact Nat.mul_pos hl' h0)
  refine ⟨b, off, e, ⟨hb, .inl hb⟩, fun i hi => ?_⟩
  have hi' : i < l.length := by simpa using hi
  rw [List.getElem_map]
  refine ⟨hf _, fun j hj => ?_⟩
  have hlt : i * sz + j < (l.flatMap f).length := by
    rw [hlen]
    have : (i + 1) * sz ≤ l.length * sz := Nat.mul_le_mul_right _ hi'
    rw [Nat.add_mul] at this
    omega
  rw [Nat.add_assoc, hc _ hlt, flat_get f sz hf l i hi' j hj]
theorem NFB_of_IF {W : World} {A : Option Addr} {ns : List Int} (h : IF W A ns) : NFB W.heap.size W A ns := fun h0 => by
  obtain ⟨b, off, e, hb, hc⟩ := h h0
  refine ⟨b, off, e, ⟨hb, .inl hb⟩, fun i hi => ?_⟩
  rw [hc i hi]
  simp [List.getD, hi]
theorem flat3_eq (l : List (List Int)) : flat3 l = l.flatMap vRow := rfl
theorem small5 {ns : List Int} {lo hi : Int} (h : wi ns 0 ns.length lo hi = true) (h1 : -99999 ≤ lo) (h2 : hi ≤ 99999) : i64L ns :=
  i64_of fun x hx => wi_weak h h1 h2 x (by simpa using hx)
theorem goodC_CB {W : World} {va vf vc : Value} {c : CageM} (h : CageR W va vf vc c) (hg : GoodC c) : ∃ A1 A2 A3 c1 c2 c3, va = .slice A1 c.verts.length c1 ∧ vf = .slice A2 c.faces.length c2 ∧ vc = .slice A3 c.creases.length c3 ∧ CB W.heap.size W A1 A2 A3 c := by
  obtain ⟨A1, c1, e1, f1, _⟩ := h.verts
  obtain ⟨A2, c2, fs, e2, f2, fl, _, fr⟩ := h.faces
  obtain ⟨A3, c3, e3, f3, _⟩ := h.creases
  refine ⟨A1, A2, A3, c1, c2, c3, e1, e2, e3, ⟨fun q hq => ?_, fun q hq => ?_, fun q hq => ?_, by have := hg.nv; omega, by have := hg.nf; omega, by have := hg.nc; omega, RB_of_CF vRow 3 (fun _ => rfl) (by omega) _ f1, fun h0 => ?_, RB_of_CF vRow 3 (fun _ => rfl) (by omega) _ f3⟩⟩
  · obtain ⟨l, hw⟩ := hg.verts q hq
    exact ⟨l, small5 (by rw [l]; exact hw) (by omega) (by omega)⟩
  · obtain ⟨_, l, hw⟩ := hg.faces q hq
    have := hg.nv
    exact ⟨by omega, small5 hw (by omega) (by omega)⟩
  · obtain ⟨l, hw, _, hw2⟩ := hg.creases q hq
    have := hg.nv
    refine ⟨l, i64_of fun x hx => ?_⟩
    rcases mem_parts 2 x hx with p | p
    · exact wi_weak hw (by omega) (by omega) x (by simpa using p)
    · exact wi_weak hw2 (by omega) (by omega) x (by rw [List.take_of_length_le (by omega)]; exact p)
  · obtain ⟨b, off, e, hb, hc⟩ := f2 (by omega)
    refine ⟨b, off, e, ⟨hb, .inl hb⟩, fun i hi => ?_⟩
    obtain ⟨B, m, q1, q2, _⟩ := fr i hi
    have eg : c.faces.getD i [] = c.faces[i] := by simp [List.getD, hi]
    rw [eg] at q1 q2
    exact ⟨B, m, by rw [hc i (by omega), q1], NFB_of_IF q2⟩
theorem SceneR.sb {W : World} {vl vm vt vs vk : Value} {sc : Scn} (h : SceneR W vl vm vt vs vk sc) (hg : Good sc) (n sk : List Int) :
    ∃ aL aM aT aS aC cL cM cT cS cC, vl = .slice aL (gsOf sc n sk).lights.length cL ∧ vm = .slice aM (gsOf sc n sk).mats.length cM ∧ vt = .slice aT (gsOf sc n sk).texs.length cT ∧ vs = .slice aS (gsOf sc n sk).skins.length cS ∧ vk = .slice aC (gsOf sc n sk).cages.length cC ∧ SB W.heap.size W (gsOf sc n sk) aL aM aT aS aC := by
  obtain ⟨aL, cL, e1, f1, _⟩ := h.lights
  obtain ⟨aM, cM, e2, f2, _⟩ := h.mats
  obtain ⟨aT, cT, ss, e3, f3, fm, _, fq⟩ := h.texs
  obtain ⟨aS, cS, e4, f4, _⟩ := h.skins
  obtain ⟨aC, cC, cs, e5, f5, fl, _, fr⟩ := h.cages
  refine ⟨aL, aM, aT, aS, aC, cL, cM, cT, cS, cC, e1, e2, e3, by rw [e4]; unfold gsOf; simp, e5, ⟨RB_of_CF fL 6 (fun _ => rfl) (by omega) _ f1, RB_of_CF fM 9 (fun _ => rfl) (by omega) _ f2, fun h0 => ?_, ?_, fun h0 => ?_⟩⟩
  · have hl : ss.length = sc.texs.length := by rw [← fm]; simp
    have h0' : 0 < sc.texs.length := h0
    have hlen := flat_len fT 4 (fun _ => rfl) ss
    obtain ⟨b, off, e, hb, hc⟩ := f3 (by omega)
    refine ⟨b, off, e, ⟨hb, .inl hb⟩, fun i hi => ?_⟩
    have hi1 : i < sc.texs.length := hi
    have hi2 : i < ss.length := by omega
    obtain ⟨B, m, q1, q2, _⟩ := fq ss[i] (List.getElem_mem hi2)
    have et : (ss[i]).1 = sc.texs[i] := by
      have : (ss.map (·.1))[i]'(by simpa using hi2) = sc.texs[i] := by simp only [fm]
      rw [← this, List.getElem_map]
    refine ⟨B, m, fun j hj => ?_, ?_⟩
    · rw [Nat.add_assoc, hc _ (by omega), flat_get fT 4 (fun _ => rfl) ss i hi2 j hj]
      show (fT ss[i])[j]? = (tRow sc.texs[i] B m)[j]?
      unfold fT tRow
      rw [q1, et]
    · show NFB W.heap.size W B (sc.texs[i].2.drop 2)
      rw [← et]; exact NFB_of_IF q2
  · have := RB_of_CF fS 6 (fun _ => rfl) (by omega) _ f4
    have e : (gsOf sc n sk).skins.map sRow = sc.skins.map fS := by
      unfold gsOf
      rw [List.map_map]
      apply List.map_congr_left
      intro k _
      rfl
    rw [e]; exact this
  · have h0' : 0 < sc.cages.length := h0
    have hlen := flat_len fC 3 (fun _ => rfl) cs
    obtain ⟨b, off, e, hb, hc⟩ := f5 (by omega)
    refine ⟨b, off, e, ⟨hb, .inl hb⟩, fun i hi => ?_⟩
    have hi1 : i < sc.cages.length := hi
    have hi2 : i < cs.length := by omega
    obtain ⟨A1, A2, A3, c1, c2, c3, g1, g2, g3, hC⟩ := goodC_CB (fr i hi2 hi1) (hg.cages _ (List.getElem_mem hi1))
    have cell : ∀ j, j < 3 → W.cell? ⟨b, off + i * 3 + j, none⟩ = (fC cs[i])[j]? := fun j hj => by
      rw [Nat.add_assoc, hc _ (by omega), flat_get fC 3 (fun _ => rfl) cs i hi2 j hj]
    refine ⟨A1, A2, A3, c1, c2, c3, ⟨?_, ?_, ?_⟩, hC⟩
    · have := cell 0 (by omega); rw [Nat.add_zero] at this; rw [this]; show some cs[i].1 = _; rw [g1]; rfl
    · rw [cell 1 (by omega)]; show some cs[i].2.1 = _; rw [g2]; rfl
    · rw [cell 2 (by omega)]; show some cs[i].2.2 = _; rw [g3]; rfl
theorem cam_small {sc : Scn} (hg : Good sc) {n : List Int} (hc : sc.cam = some n) : i64L n := by
  obtain ⟨cl, cw⟩ := hg.cam n hc
  simp only [Bool.and_eq_true] at cw
  obtain ⟨⟨⟨⟨a, b⟩, c⟩, d⟩, e⟩ := cw
  refine i64_of fun x hx => ?_
  rcases mem_parts 6 x hx with q | q
  · exact wi_weak a (by omega) (by omega) x (by simpa using q)
  · rcases mem_parts 6 x q with q | q
    · exact wi_weak b (by omega) (by omega) x (by rw [List.drop_take]; exact q)
    · rw [List.drop_drop] at q
      rcases mem_parts 2 x q with q | q
      · exact wi_weak c (by omega) (by omega) x (by rw [List.drop_take]; exact q)
      · rw [List.drop_drop] at q
        rcases mem_parts 1 x q with q | q
        · exact wi_weak d (by omega) (by omega) x (by rw [List.drop_take]; exact q)
        · rw [List.drop_drop] at q
          exact wi_weak e (by omega) (by omega) x (by rw [List.take_of_length_le (by omega)]; simpa using q)
theorem good_wf {sc : Scn} (hg : Good sc) {n sk : List Int} (hn : n.length = 16) (hn2 : i64L n) (hs : sk.length = 3) (hs2 : i64L sk) : WfG (gsOf sc n sk) := by
  refine ⟨hn, hn2, hs, hs2, by have := hg.nl; show sc.lights.length ≤ _; omega, fun q hq => ?_, by have := hg.nm; show sc.mats.length ≤ _; omega, fun q hq => ?_, by have := hg.nt; show sc.texs.length ≤ _; omega, fun q hq => ?_, ?_, fun q hq => ?_, by have := hg.ns; show sc.cages.length ≤ _; omega⟩
  · obtain ⟨l, hw⟩ := hg.lights q hq
    simp only [Bool.and_eq_true] at hw
    refine ⟨l, i64_of fun x hx => ?_⟩
    rcases mem_parts 3 x hx with p | p
    · exact wi_weak hw.1 (by omega) (by omega) x (by simpa using p)
    · exact wi_weak hw.2 (by omega) (by omega) x (by rw [List.take_of_length_le (by omega)]; exact p)
  · obtain ⟨h1, h2, h4⟩ := hg.mats q hq
    simp only [Bool.and_eq_true] at h4
    obtain ⟨⟨⟨⟨⟨a, b⟩, c⟩, d⟩, _⟩, e⟩ := h4
    refine ⟨by have := (okW_name h1).2; omega, h2, i64_of fun x hx => ?_⟩
    rcases mem_parts 3 x hx with p | p
    · exact wi_weak a (by omega) (by omega) x (by simpa using p)
    · rcases mem_parts 1 x p with p | p
      · exact wi_weak b (by omega) (by omega) x (by rw [List.drop_take]; exact p)
      · rw [List.drop_drop] at p
        rcases mem_parts 1 x p with p | p
        · exact wi_weak c (by omega) (by omega) x (by rw [List.drop_take]; exact p)
        · rw [List.drop_drop] at p
          rcases mem_parts 2 x p with p | p
          · exact wi_weak d (by omega) (by omega) x (by rw [List.drop_take]; exact p)
          · rw [List.drop_drop] at p
            exact wi_weak e (by omega) (by omega) x (by rw [List.take_of_length_le (by omega)]; simpa using p)
  · obtain ⟨h1, h2, h3, h4⟩ := hg.texs q hq
    simp only [Bool.and_eq_true] at h4
    obtain ⟨⟨a1, a2⟩, b1, b2⟩ := wi_pairN h2 h4.1
    have hm : q.2.getD 0 0 * q.2.getD 1 0 ≤ 16 * 16 := Int.mul_le_mul a2 b2 (by omega) (by omega)
    refine ⟨by have := (okW_name h1).2; omega, h2, by omega, i64_of fun x hx => ?_⟩
    rcases mem_parts 2 x hx with p | p
    · exact wi_weak h4.1 (by omega) (by omega) x (by simpa using p)
    · exact wi_weak h4.2 (by omega) (by omega) x (by rw [List.take_of_length_le (by omega)]; exact p)
  · have h1 := hg.ns.1
    have h2 := hg.ns.2
    have e : (gsOf sc n sk).skins.length = sc.skins.length := by unfold gsOf; simp
    omega
  · obtain ⟨k, hk, rfl⟩ := List.mem_map.1 hq
    obtain ⟨h1, h2, h3, h4, h5, h6, h7⟩ := hg.skins k hk
    have hm := hg.nm
    have ht := hg.nt
    refine ⟨by have := (okW_name h1).2; show k.name.length ≤ _; omega, rfl, fun x hx => ?_⟩
    have hx2 : x = (k.mat : Int) ∨ x = k.levels ∨ x = k.unit ∨ x = k.tex ∨ x = k.height := by simpa using hx
    rcases hx2 with rfl | rfl | rfl | rfl | rfl <;> omega
theorem good_placed {sc : Scn} (hg : Good sc) (n sk : List Int) : placedG (gsOf sc n sk) := by
  refine ⟨by unfold gsOf; simp [hg.ns.1], fun q hq => ?_⟩
  obtain ⟨k, hk, rfl⟩ := List.mem_map.1 hq
  obtain ⟨h1, h2, h3, h4, h5, h6, h7⟩ := hg.skins k hk
  show (0 ≤ (k.mat : Int) ∧ (k.mat : Int) < sc.mats.length) ∧ -1 ≤ k.tex ∧ k.tex < sc.texs.length
  omega
end Go.Proofs.YtdkgbdecmgligaaGreatDoor
