/- Package bvh: a node's items, sorted in their row. Package bvh: sort. Package bvh: grow. Package bvh: Build, up to the tree. Rows of structs of k cells, cell by cell. No program is imported. Package bvh: Build, rows that are filled. -/
import Derived.Great.BuildSlice
import Derived.OwnWalk
import Derived.Deep.MidRow
import Derived.Test.YthadlpkdfnonjaaC3
import Derived.Test.YthadlpkdfnonjaaC12
namespace Go.Proofs.Ythadlpkdfnonjaa
open Go.RowKit Go.Sort
set_option linter.unusedVariables false
set_option linter.unusedSimpArgs false
set_option linter.unnecessarySimpa false
set_option maxRecDepth 100000
/-! the row, sorted -/
theorem bsrt_heapE {α : Type} [Inhabited α] {enc : α → Value} {w : World} {g off n : Nat} {os : Array Obj} {cur : Array Value} {e : TypeId} {fr : Nat × Nat} (F : Array α) (hb : w.heap[g]? = some (.cells cur e fr)) :
    (sortWorld enc w g off n F os).heap[g]? = some (.cells (putCells enc off F cur) e fr) := by
  have hg : g < w.heap.size := (Array.getElem?_eq_some_iff.1 hb).1
  unfold sortWorld
  rw [heap_grow_old _ _ (by simpa using hg)]
  simp [putRow, mapBlock, Sort.ahead, Array.getElem?_modify, hb, onCells]
theorem bsrt_grown {α : Type} [Inhabited α] {enc : α → Value} {w : World} {g off n : Nat} {os : Array Obj} (F : Array α) : w.grownBy (sortWorld enc w g off n F os) (some g) := by
  unfold sortWorld
  refine ⟨rfl, rfl, rfl, by simp, fun k hk hne => ?_⟩
  rw [heap_grow_old _ _ (by simpa using hk)]
  have : g ≠ k := fun e => hne (by rw [e])
  simp [putRow, mapBlock, Sort.ahead, Array.getElem?_modify, this]
def encF (n : Nat) (k : Fin n) : Value := .int .i64 (k.val : Int)
theorem seg_get {α : Type} (I0 L I1 : List α) (j : Nat) : (I0 ++ (L ++ I1))[j]? = if j < I0.length then I0[j]? else if j - I0.length < L.length then L[j - I0.length]? else I1[j - I0.length - L.length]? := by
  by_cases h1 : j < I0.length
  · rw [if_pos h1, List.getElem?_append_left h1]
  · rw [if_neg h1, List.getElem?_append_right (by omega)]
    by_cases h2 : j - I0.length < L.length
    · rw [if_pos h2, List.getElem?_append_left h2]
    · rw [if_neg h2, List.getElem?_append_right (by omega)]
theorem put_seg {n : Nat} [Inhabited (Fin n)] (I0 L I1 : List Nat) (M : List (Fin n)) (h : M.length = L.length) : putCells (encF n) I0.length M.toArray (znC (I0 ++ (L ++ I1))).toArray = (znC (I0 ++ (M.map (·.val) ++ I1))).toArray := by
  apply Array.ext_getElem?
  intro j
  simp only [putCells, Array.getElem?_mapIdx, List.getElem?_toArray, List.size_toArray, znC, List.getElem?_map, seg_get, List.length_map, h]
  by_cases h1 : j < I0.length
  · have : ¬ (I0.length ≤ j ∧ j < I0.length + L.length) := by omega
    simp only [this, if_false, if_pos h1]
    cases I0[j]? <;> rfl
  · by_cases h2 : j - I0.length < L.length
    · have hc : I0.length ≤ j ∧ j < I0.length + L.length := by omega
      have hm : j - I0.length < M.length := by omega
      simp only [hc, and_self, if_true, if_neg h1, if_pos h2, List.getElem?_eq_getElem h2, List.getElem?_eq_getElem hm, Option.map_some]
      congr 1
      have : M.toArray[j - I0.length]! = M[j - I0.length] := by rw [getElem!_pos _ _ (by simpa using hm)]; simp
      rw [this]; rfl
    · have : ¬ (I0.length ≤ j ∧ j < I0.length + L.length) := by omega
      simp only [this, if_false, if_neg h1, if_neg h2]
      cases I1[j - I0.length - L.length]? <;> rfl
def cfF (B : Nat → Bx) (a n : Nat) (x y : Fin n) : Int := cfB B a x.val y.val
theorem cfB_lt (B : Nat → Bx) (a x y : Nat) : ltOf (cfB B a) x y = true ↔ ptA (mdB (B x)) a < ptA (mdB (B y)) a ∨ (ptA (mdB (B x)) a = ptA (mdB (B y)) a ∧ x < y) := by
  unfold ltOf cfB orT Lib.compareInt
  simp only [decide_eq_true_eq]
  repeat' split
  all_goals omega
theorem cfF_lt (B : Nat → Bx) (a n : Nat) (x y : Fin n) : ltOf (cfF B a n) x y = true ↔ ptA (mdB (B x)) a < ptA (mdB (B y)) a ∨ (ptA (mdB (B x)) a = ptA (mdB (B y)) a ∧ x.val < y.val) := cfB_lt B a x.val y.val
theorem cfF_nlt (B : Nat → Bx) (a n : Nat) (x y : Fin n) : ltOf (cfF B a n) x y = false ↔ ¬ (ptA (mdB (B x)) a < ptA (mdB (B y)) a ∨ (ptA (mdB (B x)) a = ptA (mdB (B y)) a ∧ x.val < y.val)) := by
  rw [← cfF_lt]; simp
theorem cfF_swo (B : Nat → Bx) (a n : Nat) : SWO (ltOf (cfF B a n)) where
  irrefl x := by rw [cfF_nlt]; omega
  trans x y z h k := by rw [cfF_lt] at *; omega
  ntrans x y z h k := by rw [cfF_nlt] at *; omega
theorem cfF_total (B : Nat → Bx) (a n : Nat) (x y : Fin n) (h : ltOf (cfF B a n) x y = false) (k : ltOf (cfF B a n) y x = false) : x = y := by
  rw [cfF_nlt] at *
  exact Fin.ext (by omega)
theorem merge_srtB (B : Nat → Bx) (a n : Nat) (M : List (Fin n)) : (M.mergeSort fun x y => !(ltOf (cfF B a n)) y x).map (·.val) = srtB B a (M.map (·.val)) := by
  refine srtB_of ((List.mergeSort_perm _ _).map _) ?_
  have h1 : (M.mergeSort fun x y => !(ltOf (cfF B a n)) y x).Pairwise fun x y => (!(ltOf (cfF B a n)) y x) = true := List.pairwise_mergeSort (fun a b c h k => by
    simp only [Bool.not_eq_true', cfF_nlt] at *; omega) (fun a b => by
    simp only [Bool.or_eq_true, Bool.not_eq_true', cfF_nlt]; omega) M
  rw [List.pairwise_map]
  refine h1.imp fun {x y} h => ?_
  simp only [Bool.not_eq_true', cfF_nlt] at h
  unfold leB
  omega
theorem fin_list {n : Nat} (L : List Nat) (h : ∀ i ∈ L, i < n) : ∃ M : List (Fin n), M.map (·.val) = L ∧ M.length = L.length := by
  refine ⟨L.attach.map fun x => ⟨x.val, h x.val x.property⟩, ?_, by simp⟩
  rw [List.map_map]
  exact List.attach_map_subtype_val L
set_option maxHeartbeats 1000000 in
theorem sortI_any (W : World) (gp gb g0 gi a : Nat) (A : Option Addr) (n c : Nat) (B : Nat → Bx) (v0 v1 v2 lf : Value) (hP : Blk W gp 155 #[.func (.func (partF a)) #[] #[]]) (hb : Blk W gb 136 #[.pointer (some ⟨g0, 0, none⟩)]) (h0 : Blk W g0 107 #[v0, v1, v2, .slice A n c, lf]) (hM : BxR W A n (mB B)) (ha : a = 0 ∨ a = 1 ∨ a = 2)
    (hA : ∀ b o, A = some ⟨b, o, none⟩ → b ≠ gi) (I0 L I1 : List Nat) (hI : Blk W gi 3 (znC (I0 ++ (L ++ I1))).toArray) (hin : ∀ i ∈ L, i < n) (hn : 0 < n) (hL : L.length < 1000000) (cap : Nat) :
    Calls Try.prog 103 #[.slice (some ⟨gi, I0.length, none⟩) L.length cap, .func (.func 104) #[] #[.pointer (some ⟨gp, 0, none⟩), .pointer (some ⟨gb, 0, none⟩)]] W fun e W' =>
      e = .returned (.tuple #[]) ∧ W.grownBy W' (some gi) ∧ Blk W' gi 3 (znC (I0 ++ (srtB B a L ++ I1))).toArray := by
  haveI : Inhabited (Fin n) := ⟨⟨0, hn⟩⟩
  obtain ⟨M, hM1, hM2⟩ := fin_list L hin
  have hH : Holds (encF n) W gi I0.length M.toArray := fun j hj => by
    have hj' : j < M.length := by simpa using hj
    have hjL : j < L.length := by omega
    refine ⟨?_, hI.frozen _⟩
    rw [hI.cell]
    have e1 : M.toArray[j]! = M[j] := by rw [getElem!_pos M.toArray j hj]; simp
    have e2 : (znC (I0 ++ (L ++ I1)))[I0.length + j]? = some (.int .i64 ((L[j]'hjL : Nat) : Int)) := by
      unfold znC
      rw [List.getElem?_map, seg_get, if_neg (by omega), show I0.length + j - I0.length = j by omega, if_pos hjL, List.getElem?_eq_getElem hjL]
      rfl
    rw [List.getElem?_toArray, e2, e1]
    have e3 : (M[j]).val = L[j] := by
      have : (M.map (·.val))[j]'(by simpa using hj') = L[j] := by simp only [hM1]
      simpa using this
    rw [← e3]; rfl
  have := Any.slices_SortFunc_total Try.sort103 (encF n) (fun x => rfl) (cfF B a n) (cfF_swo B a n) 104 #[.pointer (some ⟨gp, 0, none⟩), .pointer (some ⟨gb, 0, none⟩)] gi I0.length cap M.toArray W (enters_of (f := 104) Try.func104 (by kernel_rfl) rfl) (fun m os dk hdk x y => ?_) hH hI.lt (by simp; omega) (cfF_total B a n)
  · have this2 : Calls Try.prog 103 #[.slice (some ⟨gi, I0.length, none⟩) M.toArray.size cap, .func (.func 104) #[] #[.pointer (some ⟨gp, 0, none⟩), .pointer (some ⟨gb, 0, none⟩)]] W fun e w' => e = .returned (.tuple #[]) ∧ ∃ q os, w' = sortWorld (encF n) W gi I0.length q (M.mergeSort fun x y => !(ltOf (cfF B a n)) y x).toArray os := this
    rw [show M.toArray.size = L.length by simpa using hM2] at this2
    refine this2.mono ?_
    rintro e W' ⟨he, q, os, rfl⟩
    refine ⟨he, bsrt_grown _, ?_⟩
    have h1 := bsrt_heapE (enc := encF n) (off := I0.length) (n := q) (os := os) (M.mergeSort fun x y => !(ltOf (cfF B a n)) y x).toArray hI
    rw [put_seg I0 L I1 _ (by rw [(List.mergeSort_perm _ _).length_eq]; exact hM2), merge_srtB, hM1] at h1
    exact h1
  · have hg := bsrt_grown (enc := encF n) (w := W) (g := gi) (off := I0.length) (n := m) (os := os) dk
    have kp : ∀ {g : Nat} {t : TypeId} {cs : Array Value}, Blk W g t cs → t ≠ 3 → Blk (sortWorld (encF n) W gi I0.length m dk os) g t cs := fun {g t cs} hB ht => (hg.block g hB.lt (fun e => by cases e; exact Blk.ne_ hB hI ht rfl)).trans hB
    have hM' : BxR (sortWorld (encF n) W gi I0.length m dk os) A n (mB B) := (KpB.grown (X := fun b => b < W.heap.size ∧ b ≠ gi) (fun b hb => ⟨hb.1, fun e => hb.2 (by cases e; rfl)⟩) hg).bl hM (fun b o e => by
      obtain ⟨b', o', e', hl, _⟩ := hM hn
      rw [e'] at e; cases e
      exact ⟨hl, hA _ _ e'⟩)
    refine (sorterB_any _ gp gb g0 a A n c B v0 v1 v2 lf (kp hP (by decide)) (kp hb (by decide)) (kp h0 (by decide)) hM' x.val y.val x.isLt y.isLt ha).mono ?_
    rintro e W' ⟨he, z, rfl⟩
    refine ⟨he, ?_⟩
    generalize sortWorld (encF n) W gi I0.length m dk os = U
    have hk := z.kept U
    refine ⟨(z.to U).drawn - U.drawn, ((z.to U).heap.toList.drop U.heap.size).toArray, ?_⟩
    have e1 : (z.to U).heap = U.heap ++ ((z.to U).heap.toList.drop U.heap.size).toArray := by
      apply Array.ext'
      rw [Array.toList_append]
      apply List.ext_getElem?
      intro i
      rcases Nat.lt_or_ge i U.heap.size with hi | hi
      · rw [List.getElem?_append_left (by simpa using hi), Array.getElem?_toList, Array.getElem?_toList]
        exact hk.block i hi
      · rw [List.getElem?_append_right (by simpa using hi)]
        simp only [Array.length_toList, List.getElem?_drop]
        congr 1; omega
    have e2 : U.drawn + ((z.to U).drawn - U.drawn) = (z.to U).drawn := by have := hk.drw; omega
    show z.to U = Go.Sort.grow (U.drewN _) _
    unfold Go.Sort.grow World.drewN
    have h1 := hk.bel.os
    have h2 := hk.bel.tape
    have h3 := hk.bel.output
    rw [← e1, e2, ← h1, ← h2, ← h3]
end Go.Proofs.Ythadlpkdfnonjaa
namespace Go.Proofs.Ythadlpkdfnonjaa
open Go.RowKit
set_option linter.unusedVariables false
set_option linter.unusedSimpArgs false
set_option linter.unnecessarySimpa false
set_option maxRecDepth 100000
theorem il_seg {W : World} {gi : Nat} {t : TypeId} {I0 L I1 : List Nat} (hI : Blk W gi t (znC (I0 ++ (L ++ I1))).toArray) : IL W (some ⟨gi, I0.length, none⟩) (zL L) := fun hn => by
  refine ⟨gi, I0.length, rfl, hI.lt, fun j hj => ?_⟩
  have hjL : j < L.length := by rw [zL_len] at hj; exact hj
  rw [hI.cell, zL_get, List.getElem?_toArray]
  unfold znC
  rw [List.getElem?_map, seg_get, if_neg (by omega), show I0.length + j - I0.length = j by omega, if_pos hjL, List.getElem?_eq_getElem hjL]
  rfl
theorem mid_in {B : Nat → Bx} {n : Nat} (hbx : ∀ i, i < n → okBx (B i) = true) {L : List Nat} (hL : 0 < L.length) (hin : ∀ i ∈ L, i < n) : InP 262144 (bxL (mB B) L).lo ∧ InP 262144 (bxL (mB B) L).hi := by
  have hm : ∀ i ∈ L, InP 262144 (mB B i).lo ∧ InP 262144 (mB B i).hi := fun i hi => by
    obtain ⟨⟨a1, a2, a3⟩, b1, b2, b3⟩ := okBx_iff.1 (hbx i (hin i hi))
    unfold mB mdB InP
    simp only
    omega
  have hne : L[0] ∈ L := List.getElem_mem hL
  obtain ⟨⟨w1, w2, w3⟩, w4, w5, w6⟩ := bxL_mem (mB B) hne
  have hall : WnB (bxL (mB B) L) ⟨⟨-262144, -262144, -262144⟩, ⟨262144, 262144, 262144⟩⟩ := by
    have : ∀ i ∈ L, WnB (mB B i) ⟨⟨-262144, -262144, -262144⟩, ⟨262144, 262144, 262144⟩⟩ := fun i hi => by
      obtain ⟨⟨a1, a2, a3⟩, b1, b2, b3⟩ := hm i hi
      exact ⟨⟨a1.1, a2.1, a3.1⟩, b1.2, b2.2, b3.2⟩
    cases L with
    | nil => simp at hL
    | cons k L => exact foldB_least _ _ L _ (this k (by simp)) fun i hi => this i (by simp [hi])
  obtain ⟨⟨c1, c2, c3⟩, c4, c5, c6⟩ := hall
  obtain ⟨⟨a1, a2, a3⟩, b1, b2, b3⟩ := hm _ hne
  simp only at c1 c2 c3 c4 c5 c6
  exact ⟨⟨⟨c1, by omega⟩, ⟨c2, by omega⟩, c3, by omega⟩, ⟨by omega, c4⟩, ⟨by omega, c5⟩, by omega, c6⟩
theorem axB_lt (b : Bx) : axB b = 0 ∨ axB b = 1 ∨ axB b = 2 := by
  unfold axB axN
  split
  · simp
  · split <;> simp
theorem x_size_le (w : World) (x : More) : w.heap.size ≤ (grow w x).heap.size := (x.kept w).size
theorem infoFnB : (Try.prog.info? 155).map (·.size) = some 1 := by kernel_rfl
set_option maxHeartbeats 1000000 in
theorem bsort_any (W : World) (g0 gi : Nat) (A : Option Addr) (n c : Nat) (B : Nat → Bx) (v0 v1 v2 lf : Value) (h0 : Blk W g0 107 #[v0, v1, v2, .slice A n c, lf]) (hM : BxR W A n (mB B))
    (hA : ∀ b o, A = some ⟨b, o, none⟩ → b ≠ gi) (I0 L I1 : List Nat) (hI : Blk W gi 3 (znC (I0 ++ (L ++ I1))).toArray) (hin : ∀ i ∈ L, i < n) (hn : n ≤ 1000000) (hL0 : 0 < L.length) (hL : L.length < 1000000) (cap : Nat) (hcap : L.length ≤ cap) (hbx : ∀ i, i < n → okBx (B i) = true) :
    Calls Try.prog 82 #[.pointer (some ⟨g0, 0, none⟩), .slice (some ⟨gi, I0.length, none⟩) L.length cap] W fun e W' => e = .returned (.tuple #[]) ∧ KpB (fun b => b < W.heap.size ∧ b ≠ gi) W W' ∧ Blk W' gi 3 (znC (I0 ++ (srtB B (axL B L) L ++ I1))).toArray := by
  obtain ⟨hm1, hm2⟩ := mid_in hbx hL0 hin
  have hl := longest_any _ hm1 hm2
  have hax : axL B L = axB (bxL (mB B) L) := rfl
  rw [hax]
  have ha := axB_lt (bxL (mB B) L)
  have hnp : 0 < n := by have := hin _ (List.getElem_mem hL0); omega
  have hW1 : Below W.heap.size W (W.alloc (.cells #[.pointer (some ⟨g0, 0, none⟩)] 136)) := bel_alloc (Below.refl _ _) _
  have kA := around_any (W.alloc (.cells #[.pointer (some ⟨g0, 0, none⟩)] 136)) A n c (mB B) (hM.below hW1) hn (some ⟨gi, I0.length, none⟩) cap L (il_seg (hI.below hW1)) hL0 hin hcap (by omega)
  have d3 := h0.cell 3
  have dl := h0.lt
  generalize axB (bxL (mB B) L) = ax at *
  generalize bxL (mB B) L = bb at *
  clear hm1 hm2 hax
  go_enter Try.func82, Try.ntmps82
  go_upto_region 2 with (first | (go_at_call 81; (with_reducible refine kA.mono ?_); rintro e W2 ⟨rfl, hW2⟩) | (go_at_call 102; (with_reducible refine (hl.at_ _).mono ?_); rintro e w' ⟨rfl, xl, rfl⟩) | (refine wpList_store_oneTo rfl 155 _ _ rfl rfl (grow W2 xl).heap.size (.func (.func (partF ax)) #[] #[]) rfl rfl rfl 155 .nilFunc (Blk.new _ _ _ _ rfl) infoFnB ?_) | fail)
  obtain ⟨W3, hW3⟩ : ∃ W3, W3 = ((grow W2 xl).alloc (.cells #[.nilFunc] 155)).setRow (grow W2 xl).heap.size #[.func (.func (partF ax)) #[] #[]] := ⟨_, rfl⟩
  have hb2 : Below W.heap.size W W2 := bel_trans hW1 hW2
  have hb3 : Below W.heap.size W W3 := by rw [hW3]; exact bel_setRow (bel_alloc (bel_grow hb2 xl) _) (Nat.le_trans hb2.size (x_size_le _ _)) _
  have hP3 : Blk W3 (grow W2 xl).heap.size 155 #[.func (.func (partF ax)) #[] #[]] := by rw [hW3]; exact (Blk.new _ _ _ _ rfl).setRow _
  have hB2 : Blk W2 W.heap.size 136 #[.pointer (some ⟨g0, 0, none⟩)] := (Blk.new W _ _ _ rfl).below hW2
  have hB3 : Blk W3 W.heap.size 136 #[.pointer (some ⟨g0, 0, none⟩)] := by rw [hW3]; exact ((hB2.grow xl).alloc _).farRow _ (by have := hB2.lt; have := x_size_le W2 xl; omega)
  rw [← hW3]
  clear hW3 hl kA
  generalize (grow W2 xl).heap.size = gp at *
  obtain ⟨gb, hgb⟩ : ∃ b, b = W.heap.size := ⟨_, rfl⟩
  rw [← hgb] at hB3 ⊢
  replace hgb := Lib.hid hgb
  have kS := sortI_any W3 gp gb g0 gi ax A n c B v0 v1 v2 lf hP3 hB3 (h0.below hb3) (hM.below hb3) ha hA I0 L I1 (hI.below hb3) hin hnp hL cap
  go_wp2_with (first | (go_at_call 103; (with_reducible refine kS.mono ?_); rintro e W4 ⟨rfl, hg4, hI4⟩) | fail)
  go_end0
  refine ⟨rfl, ?_, hI4⟩
  exact (KpB.of (X := fun b => b < W.heap.size ∧ b ≠ gi) (fun b h => h.1) hb3).trans (KpB.grown (fun b h => ⟨Nat.lt_of_lt_of_le h.1 hb3.size, fun e => h.2 (by cases e; rfl)⟩) hg4)
end Go.Proofs.Ythadlpkdfnonjaa
namespace Go.Proofs.Ythadlpkdfnonjaa
open Go.RowKit
set_option linter.unusedVariables false
set_option linter.unusedSimpArgs false
set_option linter.unnecessarySimpa false
set_option maxRecDepth 100000
/-- A builder: where its boxes and middles lie, its items so far, its nodes so far. -/
structure GrS (base g0 gi : Nat) (A Am : Option Addr) (n c cm leaf : Nat) (B : Nat → Bx) (W : World) (v : Value) (N : List Nd) (I : List Nat) : Prop where
  blk : Blk W g0 107 #[v, .slice (some ⟨gi, 0, none⟩) I.length I.length, .slice A n c, .slice Am n cm, .int .i64 (leaf : Int)]
  own : W.ownsRow base 66 10 v N.length (ndC N)
  its : Blk W gi 3 (znC I).toArray
  bl : BxR W A n B
  ml : BxR W Am n (mB B)
  size : base ≤ W.heap.size
theorem GrS.below {base g0 gi : Nat} {A Am : Option Addr} {n c cm leaf : Nat} {B : Nat → Bx} {W W' : World} {v : Value} {N : List Nd} {I : List Nat} (h : GrS base g0 gi A Am n c cm leaf B W v N I) (hb : Below W.heap.size W W') : GrS base g0 gi A Am n c cm leaf B W' v N I :=
  ⟨h.blk.below hb, bown_lay h.own hb, h.its.below hb, h.bl.below hb, h.ml.below hb, Nat.le_trans h.size hb.size⟩
/-- What else holds of a builder, in whatever world. -/
structure GrH (base g0 gi : Nat) (A Am : Option Addr) (n leaf : Nat) (B : Nat → Bx) : Prop where
  g0l : g0 < base
  gil : gi < base
  a : ∀ b o, A = some ⟨b, o, none⟩ → b < base ∧ b ≠ g0 ∧ b ≠ gi
  am : ∀ b o, Am = some ⟨b, o, none⟩ → b < base ∧ b ≠ g0 ∧ b ≠ gi
  n1 : n ≤ 300
  leaf1 : 0 < leaf ∧ leaf ≤ 9223372036854775807
  bx : ∀ i, i < n → okBx (B i) = true
def KpG (base g0 gi : Nat) : Nat → Prop := fun b => b < base ∧ b ≠ g0 ∧ b ≠ gi
theorem neBI : (107 : TypeId) ≠ 3 := by decide
theorem neBN : (107 : TypeId) ≠ 66 := by decide
theorem neIN : (3 : TypeId) ≠ 66 := by decide
theorem GrS.to {base g0 gi : Nat} {A Am : Option Addr} {n c cm leaf : Nat} {B : Nat → Bx} {W W' : World} {v v' : Value} {N N' : List Nd} {I I' : List Nat} (h : GrS base g0 gi A Am n c cm leaf B W v N I) (hH : GrH base g0 gi A Am n leaf B) (hk : KpB (KpG base g0 gi) W W')
    (hb : Blk W' g0 107 #[v', .slice (some ⟨gi, 0, none⟩) I'.length I'.length, .slice A n c, .slice Am n cm, .int .i64 (leaf : Int)]) (ho : W'.ownsRow base 66 10 v' N'.length (ndC N')) (hi : Blk W' gi 3 (znC I').toArray) : GrS base g0 gi A Am n c cm leaf B W' v' N' I' :=
  ⟨hb, ho, hi, hk.bl h.bl (fun b o e => hH.a b o e), hk.bl h.ml (fun b o e => hH.am b o e), Nat.le_trans h.size hk.size⟩
theorem bown_far {W : World} {base : Nat} {T : TypeId} {sz n : Nat} {v : Value} {xs : List Value} (h : W.ownsRow base T sz v n xs) {g : Nat} (hne : some g ≠ v.ownBlock) (i : Nat) (u : Value) : (W.setCell ⟨g, i, none⟩ u).ownsRow base T sz v n xs := by
  obtain ⟨h0, h | ⟨g2, cap, cur, h1, h2, h3, h4⟩⟩ := h
  · exact ⟨h0, .inl h⟩
  · refine ⟨h0, .inr ⟨g2, cap, cur, h1, h2, ((bgrown_set W g i u).block g2 (Array.getElem?_eq_some_iff.1 h3).1 (by intro e; cases e; exact hne (by rw [h1]; rfl))).trans h3, h4⟩⟩
theorem KpB.setG {base g0 gi : Nat} {W W' : World} (h : KpB (KpG base g0 gi) W W') (hs : base ≤ W.heap.size) {g : Nat} (hg : g = g0 ∨ g = gi ∨ base ≤ g) (i : Nat) (u : Value) : KpB (KpG base g0 gi) W (W'.setCell ⟨g, i, none⟩ u) :=
  h.trans (KpB.grown (fun b hb => ⟨Nat.lt_of_lt_of_le hb.1 (Nat.le_trans hs h.size), fun e => by cases e; obtain ⟨k1, k2, k3⟩ := hb; omega⟩) (bgrown_set _ _ _ _))
theorem KpB.drew {X : Nat → Prop} {W W' : World} (h : KpB X W W') : KpB X W W'.drew := ⟨h.os, h.tape, h.output, h.size, h.block⟩
theorem bown_drew {W : World} {base : Nat} {T : TypeId} {sz n : Nat} {v : Value} {xs : List Value} (h : W.ownsRow base T sz v n xs) : W.drew.ownsRow base T sz v n xs := h
/-- Two fields of a node stored. -/
theorem GrS.store2 {base g0 gi : Nat} {A Am : Option Addr} {n c cm leaf : Nat} {B : Nat → Bx} {W : World} {v : Value} {N : List Nd} {I : List Nat} (h : GrS base g0 gi A Am n c cm leaf B W v N I) (hH : GrH base g0 gi A Am n leaf B) {nb : Nat} (hv : v.ownBlock = some nb) (at' : Nat) (hat : at' < N.length) (j1 j2 : Nat) (h1 : j1 < 10) (h2 : j2 < 10) (u1 u2 : Value) (d : Nd) (hd : nd1 d = ((nd1 N[at']).set j1 u1).set j2 u2) (hd1 : ∃ d1, nd1 d1 = (nd1 N[at']).set j1 u1) :
    GrS base g0 gi A Am n c cm leaf B ((W.setCell ⟨nb, at' * 10 + j1, none⟩ u1).setCell ⟨nb, at' * 10 + j2, none⟩ u2).drew v (N.set at' d) I ∧ KpB (KpG base g0 gi) W ((W.setCell ⟨nb, at' * 10 + j1, none⟩ u1).setCell ⟨nb, at' * 10 + j2, none⟩ u2).drew := by
  obtain ⟨⟨q1, q2⟩, cs, q3⟩ := bown_block h.own nb hv
  have hk : KpB (KpG base g0 gi) W ((W.setCell ⟨nb, at' * 10 + j1, none⟩ u1).setCell ⟨nb, at' * 10 + j2, none⟩ u2).drew := (((KpB.refl _ W).setG h.size (.inr (.inr q1)) _ _).setG h.size (.inr (.inr q1)) _ _).drew
  refine ⟨h.to hH hk ?_ ?_ ?_, hk⟩
  · exact ((h.blk.far _ _ (q3.ne_ h.blk (Ne.symm neBN))).far _ _ (q3.ne_ h.blk (Ne.symm neBN))).drew
  · obtain ⟨d1, hd1⟩ := hd1
    have o1 := bown_put h.own hv (j := at' * 10 + j1) (by omega) u1
    rw [ndC_set N at' hat j1 h1 u1 d1 hd1] at o1
    have o2 := bown_put o1 hv (j := at' * 10 + j2) (by omega) u2
    rw [ndC_set (N.set at' d1) at' (by simpa using hat) j2 h2 u2 d (by rw [List.getElem_set_self, hd1]; exact hd), List.set_set] at o2
    rw [List.length_set]
    exact bown_drew o2
  · exact ((h.its.far _ _ (q3.ne_ h.its (Ne.symm neIN))).far _ _ (q3.ne_ h.its (Ne.symm neIN))).drew
/-- What an append to a row keeps. -/
def KpV (W : World) (v : Value) : Nat → Prop := fun b => b < W.heap.size ∧ some b ≠ v.ownBlock
def PNd (W : World) (cs : Array Value) : World → Value → Prop := fun w v => ∃ b, v = .slice (some ⟨b, 0, none⟩) 1 1 ∧ W.heap.size ≤ b ∧ Blk w b 66 cs
theorem PNd.stays (W : World) (cs : Array Value) : ∀ (w w' : World) (v : Value), Below w.heap.size w w' → PNd W cs w v → PNd W cs w' v := fun w w' v hb ⟨b, h1, h2, h3⟩ => ⟨b, h1, h2, h3.below hb⟩
def PAp (base : Nat) (N : List Nd) (m S : Nat) (v0 : Value) : World → Value → Prop := fun w v => ∃ A c, v = .slice A m c ∧ w.ownsRow base 66 10 (.slice A m c) m (ndC N) ∧ ((Value.slice A m c).ownBlock = v0.ownBlock ∨ ∃ b, (Value.slice A m c).ownBlock = some b ∧ S ≤ b)
theorem PAp.stays (base : Nat) (N : List Nd) (m S : Nat) (v0 : Value) : ∀ (w w' : World) (v : Value), Below w.heap.size w w' → PAp base N m S v0 w v → PAp base N m S v0 w' v := fun w w' v hb ⟨A, c, h1, h2, h3⟩ => ⟨A, c, h1, bown_lay h2 hb, h3⟩
def nd0 (b : Bx) : Nd := ⟨b, 0, 0, 0, 0⟩
theorem built_Nd (b : Bx) : Try.prog.built 66 [(0, .agg #[.int .i64 b.lo.x, .int .i64 b.lo.y, .int .i64 b.lo.z, .int .i64 b.hi.x, .int .i64 b.hi.y, .int .i64 b.hi.z])] = some (nd1 (nd0 b)).toArray := by kernel_rfl
def BGrow (base g0 gi : Nat) (A Am : Option Addr) (n c cm leaf : Nat) (B : Nat → Bx) (k : Nat) : Prop := ∀ (W : World) (v : Value) (N : List Nd) (I0 L I1 : List Nat), GrS base g0 gi A Am n c cm leaf B W v N (I0 ++ (L ++ I1)) → 0 < L.length → L.length ≤ 2 ^ k → (∀ i ∈ L, i < n) → (I0 ++ (L ++ I1)).length ≤ 300 → N.length ≤ 1000 * (300 - L.length) →
    Calls Try.prog 47 #[.pointer (some ⟨g0, 0, none⟩), .int .i64 (I0.length : Int), .int .i64 (L.length : Int)] W fun e W' => e = .returned (.int .i64 (N.length : Int)) ∧ ∃ v', GrS base g0 gi A Am n c cm leaf B W' v' (N ++ (growT B leaf k I0.length L).lay B N.length) (I0 ++ ((growT B leaf k I0.length L).its ++ I1)) ∧ KpB (KpG base g0 gi) W W'
theorem growT_leaf (B : Nat → Bx) {leaf : Nat} (k f : Nat) {L : List Nat} (h : L.length ≤ leaf) : growT B leaf k f L = .leaf f L := by
  cases k with
  | zero => rfl
  | succ k => unfold growT; rw [if_pos h]
theorem growT_node (B : Nat → Bx) {leaf : Nat} (k f : Nat) {L : List Nat} (h : ¬ L.length ≤ leaf) : growT B leaf (k + 1) f L = .node L (growT B leaf k f ((srtB B (axL B L) L).take ((L.length + 1) / 2))) (growT B leaf k (f + (L.length + 1) / 2) ((srtB B (axL B L) L).drop ((L.length + 1) / 2))) := by
  rw [growT, if_neg h]
set_option maxHeartbeats 2000000 in
theorem bgrow_step (base g0 gi : Nat) (A Am : Option Addr) (n c cm leaf : Nat) (B : Nat → Bx) (hH : GrH base g0 gi A Am n leaf B) (k : Nat) (ih : ∀ k', k = k' + 1 → BGrow base g0 gi A Am n c cm leaf B k') : BGrow base g0 gi A Am n c cm leaf B k := by
    intro W v N I0 L I1 hG hL0 hLk hin hI3 hN
    have b0 := hG.blk.cell 0
    have b1 := hG.blk.cell 1
    have b2 := hG.blk.cell 2
    have bl := hG.blk.lt
    have hlen : (I0 ++ (L ++ I1)).length = I0.length + (L.length + I1.length) := by simp
    obtain ⟨s, hs⟩ : ∃ s, s = (I0 ++ (L ++ I1)).length := ⟨_, rfl⟩
    have f0 : (0 : Int) ≤ (I0.length : Int) := by omega
    have f1 : (0 : Int) < (L.length : Int) := by omega
    have f2 : (I0.length : Int) + (L.length : Int) ≤ (s : Int) := by omega
    have f3 : (s : Int) ≤ 300 := by omega
    rw [← hs] at b1
    have hs2 : s - I0.length ≠ 0 := by omega
    replace hs := Lib.hid hs
    clear hlen
    obtain ⟨Av, cv, rfl⟩ := bown_form hG.own
    go_enter Try.func47, Try.ntmps47
    go_upto_region 3 with (fail)
    simp only [Nat.add_sub_cancel_left]
    have kg0 : KpV W (.slice Av N.length cv) g0 := ⟨bl, bown_ne hG.own hG.blk neBN⟩
    have toK : ∀ {w : World}, (∃ b : Bool, (if b = true then KpB (KpV W (.slice Av N.length cv)) W w else Below W.heap.size W w)) → KpB (KpV W (.slice Av N.length cv)) W w := fun {w} ⟨b, h⟩ => by
      cases b
      · exact KpB.of (fun b h => h.1) h
      · exact h
    have cellK : ∀ {w : World}, (∃ b : Bool, (if b = true then KpB (KpV W (.slice Av N.length cv)) W w else Below W.heap.size W w)) → ∀ g i, g < W.heap.size → KpV W (.slice Av N.length cv) g → w.cell? ⟨g, i, none⟩ = W.cell? ⟨g, i, none⟩ := fun {w} h g i _ hg => (toK h).cell hg i
    have sizeK : ∀ {w : World}, (∃ b : Bool, (if b = true then KpB (KpV W (.slice Av N.length cv)) W w else Below W.heap.size W w)) → W.heap.size ≤ w.heap.size := fun {w} h => (toK h).size
    have hIm_ : ∀ (b : Bool) (u u' : World), Below u.heap.size u u' → (if b = true then KpB (KpV W (.slice Av N.length cv)) W u else Below W.heap.size W u) → (if b = true then KpB (KpV W (.slice Av N.length cv)) W u' else Below W.heap.size W u') := fun b u u' hb h => by
      cases b
      · exact bel_trans h hb
      · have h' : KpB (KpV W (.slice Av N.length cv)) W u := h
        exact h'.trans (KpB.of (fun b hb2 => Nat.lt_of_lt_of_le hb2.1 h'.size) hb)
    have hI0_ : (if false = true then KpB (KpV W (.slice Av N.length cv)) W W.drew else Below W.heap.size W W.drew) := bel_drew (Below.refl _ _)
    have kA : ∀ w : World, KpB (KpV W (.slice Av N.length cv)) W w → _ := fun w hK => around_any w A n c B (hK.bl hG.bl (fun b o e => ⟨by obtain ⟨b', o', e', hl, _⟩ := hG.bl (by have := hin _ (List.getElem_mem hL0); omega); rw [e'] at e; cases e; exact hl, fun e2 => by have := (bown_block hG.own b e2.symm).1.1; have := (hH.a b o e).1; omega⟩)) (by have := hH.n1; omega) (some ⟨gi, I0.length, none⟩) (s - I0.length) L (hK.il (il_seg hG.its) (fun b o e => by cases e; exact ⟨hG.its.lt, bown_ne hG.own hG.its neIN⟩)) hL0 hin (by omega) (by omega)
    have hN' : N.length < 1000000 := by omega
    obtain ⟨acc, hacc⟩ : ∃ b, b = bxL B L := ⟨_, rfl⟩
    rw [← hacc] at kA
    replace hacc := Lib.hid hacc
    have hst_ : StayR (RL [PE (.pointer (some ⟨g0, 0, none⟩)), PE (.pointer (some ⟨g0, 0, none⟩)), PE (.pointer (some ⟨g0, 0, none⟩)), PE (.pointer (some ⟨g0, 0, none⟩)), PE (.pointer (some ⟨g0, 0, none⟩)), PE (.slice Av N.length cv), PE (.pointer (some ⟨g0, 0, none⟩)), PE (.pointer (some ⟨g0, 0, none⟩)), PE (.pointer (some ⟨g0, 2, none⟩)), PE (.slice A n c), PE (.slice (some ⟨gi, I0.length, none⟩) L.length (s - I0.length)), PE (.agg #[.int .i64 acc.lo.x, .int .i64 acc.lo.y, .int .i64 acc.lo.z, .int .i64 acc.hi.x, .int .i64 acc.hi.y, .int .i64 acc.hi.z]), PE (.agg (nd1 (nd0 acc)).toArray), PNd W (nd1 (nd0 acc)).toArray, PAp base (N ++ [(nd0 acc)]) (N.length + 1) W.heap.size (.slice Av N.length cv)]) := by
      refine RL.stays ?_
      intro p hp
      simp only [List.mem_cons, List.not_mem_nil, or_false] at hp
      rcases hp with rfl | rfl | rfl | rfl | rfl | rfl | rfl | rfl | rfl | rfl | rfl | rfl | rfl | rfl | rfl <;> first | exact PE.stays _ | exact PNd.stays _ _ | exact PAp.stays _ _ _ _ _
    refine wp_region_monoR 15 (RL [PE (.pointer (some ⟨g0, 0, none⟩)), PE (.pointer (some ⟨g0, 0, none⟩)), PE (.pointer (some ⟨g0, 0, none⟩)), PE (.pointer (some ⟨g0, 0, none⟩)), PE (.pointer (some ⟨g0, 0, none⟩)), PE (.slice Av N.length cv), PE (.pointer (some ⟨g0, 0, none⟩)), PE (.pointer (some ⟨g0, 0, none⟩)), PE (.pointer (some ⟨g0, 2, none⟩)), PE (.slice A n c), PE (.slice (some ⟨gi, I0.length, none⟩) L.length (s - I0.length)), PE (.agg #[.int .i64 acc.lo.x, .int .i64 acc.lo.y, .int .i64 acc.lo.z, .int .i64 acc.hi.x, .int .i64 acc.hi.y, .int .i64 acc.hi.z]), PE (.agg (nd1 (nd0 acc)).toArray), PNd W (nd1 (nd0 acc)).toArray, PAp base (N ++ [(nd0 acc)]) (N.length + 1) W.heap.size (.slice Av N.length cv)]) 14 (fun b w => if b = true then KpB (KpV W (.slice Av N.length cv)) W w else Below W.heap.size W w) (by kernel_rfl) _ rfl (by kernel_rfl) (by kernel_rfl) (by kernel_rfl) (by kernel_rfl) (by kernel_rfl) (by kernel_rfl) hI0_ ?_ ?_
    · simp only [List.take_succ_cons, List.take_zero]
      refine ⟨?_, ?_, ?_, ?_, ?_, ?_, ?_, ?_, ?_, ?_, ?_, ?_, ?_, ?_, ?_, ?_⟩
      · refine monoR_val rfl (by decide) (fun a w hI hk hp => ?_)
        have es0 := (hk 0 (keep_of (by kernel_rfl))).trans (show _ = some (.pointer (some ⟨g0, 0, none⟩)) from rfl)
        exact ⟨_, by simp [execOp, go_sem, es0], rfl⟩
      · refine monoR_val rfl (by decide) (fun a w hI hk hp => ?_)
        have es0 := (hk 0 (keep_of (by kernel_rfl))).trans (show _ = some (.pointer (some ⟨g0, 0, none⟩)) from rfl)
        exact ⟨_, by simp [execOp, go_sem, es0], rfl⟩
      · refine monoR_val rfl (by decide) (fun a w hI hk hp => ?_)
        obtain ⟨x1, ex1, rx1⟩ := hp ⟨1, .data⟩ (by simp) rfl _ _ rfl rfl
        obtain rfl : x1 = _ := rx1
        exact ⟨_, by simp [execOp, go_sem, ex1], rfl⟩
      · refine monoR_val rfl (by decide) (fun a w hI hk hp => ?_)
        obtain ⟨x2, ex2, rx2⟩ := hp ⟨2, .data⟩ (by simp) rfl _ _ rfl rfl
        obtain rfl : x2 = _ := rx2
        exact ⟨_, by simp [execOp, go_sem, ex2], rfl⟩
      · refine monoR_val rfl (by decide) (fun a w hI hk hp => ?_)
        obtain ⟨x3, ex3, rx3⟩ := hp ⟨3, .data⟩ (by simp) rfl _ _ rfl rfl
        obtain rfl : x3 = _ := rx3
        exact ⟨_, by simp [execOp, go_sem, ex3], rfl⟩
      · refine monoR_val rfl (by decide) (fun a w hI hk hp => ?_)
        obtain ⟨x4, ex4, rx4⟩ := hp ⟨4, .data⟩ (by simp) rfl _ _ rfl rfl
        obtain rfl : x4 = _ := rx4
        have fc0 := (cellK hI g0 0 bl kg0).trans b0
        exact ⟨_, by simp [execOp, go_sem, ex4, fc0], rfl⟩
      · refine monoR_val rfl (by decide) (fun a w hI hk hp => ?_)
        have es0 := (hk 0 (keep_of (by kernel_rfl))).trans (show _ = some (.pointer (some ⟨g0, 0, none⟩)) from rfl)
        exact ⟨_, by simp [execOp, go_sem, es0], rfl⟩
      · refine monoR_val rfl (by decide) (fun a w hI hk hp => ?_)
        obtain ⟨x6, ex6, rx6⟩ := hp ⟨6, .data⟩ (by simp) rfl _ _ rfl rfl
        obtain rfl : x6 = _ := rx6
        exact ⟨_, by simp [execOp, go_sem, ex6], rfl⟩
      · refine monoR_val rfl (by decide) (fun a w hI hk hp => ?_)
        obtain ⟨x7, ex7, rx7⟩ := hp ⟨7, .data⟩ (by simp) rfl _ _ rfl rfl
        obtain rfl : x7 = _ := rx7
        exact ⟨_, by simp [execOp, go_sem, ex7], rfl⟩
      · refine monoR_val rfl (by decide) (fun a w hI hk hp => ?_)
        obtain ⟨x8, ex8, rx8⟩ := hp ⟨8, .data⟩ (by simp) rfl _ _ rfl rfl
        obtain rfl : x8 = _ := rx8
        have fc0 := (cellK hI g0 2 bl kg0).trans b2
        exact ⟨_, by simp [execOp, go_sem, ex8, fc0], rfl⟩
      · refine monoR_val rfl (by decide) (fun a w hI hk hp => ?_)
        have es7 := (hk 7 (keep_of (by kernel_rfl))).trans (show _ = some (.slice (some ⟨gi, I0.length, none⟩) L.length (s - I0.length)) from rfl)
        exact ⟨_, by simp [execOp, go_sem, es7], rfl⟩
      · refine monoR_call rfl (by decide) hst_ hIm_ (fun a w hI hk hp => ?_)
        obtain ⟨x9, ex9, rx9⟩ := hp ⟨9, .data⟩ (by simp) rfl _ _ rfl rfl
        obtain rfl : x9 = _ := rx9
        obtain ⟨x10, ex10, rx10⟩ := hp ⟨10, .data⟩ (by simp) rfl _ _ rfl rfl
        obtain rfl : x10 = _ := rx10
        refine ⟨81, #[.slice A n c, .slice (some ⟨gi, I0.length, none⟩) L.length (s - I0.length)], by simp [execOp, go_sem, ex9, ex10], ?_⟩
        exact (kA w (toK hI)).mono fun e w' ⟨h1, h2⟩ => ⟨_, h1, h2, rfl⟩
      · refine monoR_val rfl (by decide) (fun a w hI hk hp => ?_)
        obtain ⟨x11, ex11, rx11⟩ := hp ⟨11, .data⟩ (by simp) rfl _ _ rfl rfl
        obtain rfl : x11 = _ := rx11
        exact ⟨_, by simp [execOp, go_sem, ex11, built_Nd, nd1, nd0], rfl⟩
      · refine monoR_new rfl (by decide) hst_ hIm_ (fun a w hI hk hp => ?_)
        obtain ⟨x12, ex12, rx12⟩ := hp ⟨12, .data⟩ (by simp) rfl _ _ rfl rfl
        obtain rfl : x12 = _ := rx12
        exact ⟨.slice (some ⟨w.heap.size, 0, none⟩) 1 1, w.alloc (.cells (nd1 (nd0 acc)).toArray 66), by simp [execOp, go_sem, ex12, nd1, nd0], bel_alloc (Below.refl _ _) _, w.heap.size, rfl, (sizeK hI), Blk.new _ _ _ _ rfl⟩
      · refine monoR_turn rfl (fun a w hI hk hp => ?_)
        obtain ⟨x5, ex5, rx5⟩ := hp ⟨5, .data⟩ (by simp) rfl _ _ rfl rfl
        obtain rfl : x5 = _ := rx5
        obtain ⟨x13, ex13, rx13⟩ := hp ⟨13, .data⟩ (by simp) rfl _ _ rfl rfl
        obtain ⟨bb, rfl, hbb, hbk⟩ : PNd W (nd1 (nd0 acc)).toArray w x13 := rx13
        have hBw : Below W.heap.size W w := hI
        obtain ⟨A2, c2, u2, hr, ho, hg, hq⟩ := appN (bown_lay hG.own hBw) hN' (Nat.le_trans hG.size hBw.size) (nd0 acc) bb hbk 53
        refine ⟨.slice A2 (N.length + 1) c2, u2, brun_app _ _ _ rfl (eval_tmp ex5) (eval_tmp ex13) hr, ?_, ?_, A2, c2, rfl, ?_, ?_⟩
        · exact (KpB.of (X := KpV W (.slice Av N.length cv)) (fun b h => h.1) hBw).trans (KpB.grown (fun b h => ⟨Nat.lt_of_lt_of_le h.1 hBw.size, h.2⟩) hg)
        · intro j v' hj hR
          by_cases e13 : j = 13
          · subst e13
            obtain ⟨b, h1, h2, h3⟩ : (PNd W (nd1 (nd0 acc)).toArray) w v' := hR
            exact ⟨b, h1, h2, (hg.block b h3.lt (fun e => by have := (bown_block hG.own b e.symm).1.2; omega)).trans h3⟩
          · rcases j with _ | _ | _ | _ | _ | _ | _ | _ | _ | _ | _ | _ | _ | _ | _ | j <;> first | exact hR | exact absurd rfl hj | exact absurd rfl e13
        · rw [List.length_append] at ho; exact ho
        · rcases hq with h | h
          · exact .inl h
          · exact .inr ⟨_, h, hBw.size⟩
      · trivial
    · intro a w3 hI hsz hdf hk hgot
      replace hI := hI (by decide)
      obtain ⟨v0, ev0, rv0⟩ := hgot 0 _ 28 rfl rfl
      obtain rfl : v0 = _ := rv0
      obtain ⟨v14, ev14, rv14⟩ := hgot 14 _ 42 rfl rfl
      obtain ⟨A2, c2, rfl, ho2, hq2⟩ : (PAp base (N ++ [(nd0 acc)]) (N.length + 1) W.heap.size (.slice Av N.length cv)) w3 v14 := rv14
      obtain ⟨f, hf, rfl⟩ := frame_eq hsz hdf hk [28, 29, 30, 31, 32, 33, 34, 35, 36, 37, 38, 39, 40, 41, 42] (by rfl)
      have f28 := hf 28 _ ev0
      have f42 := hf 42 _ ev14
      clear hsz hdf hk hgot hf ev0 ev14
      simp only [List.drop_succ_cons, List.drop_zero, setAll, List.setIfInBounds_toArray, List.set_cons_succ, List.set_cons_zero, f28, f42]
      clear f28 f42
      generalize f 29 = uu29; generalize f 30 = uu30; generalize f 31 = uu31; generalize f 32 = uu32; generalize f 33 = uu33; generalize f 34 = uu34; generalize f 35 = uu35; generalize f 36 = uu36; generalize f 37 = uu37; generalize f 38 = uu38; generalize f 39 = uu39; generalize f 40 = uu40; generalize f 41 = uu41
      have hK3 : KpB (KpV W (.slice Av N.length cv)) W w3 := hI
      have hKG : KpB (KpG base g0 gi) W w3 := hK3.less (fun b hb => ⟨Nat.lt_of_lt_of_le hb.1 hG.size, fun e => by have := (bown_block hG.own b e.symm).1.1; have := hb.1; omega⟩)
      have hB3 := hK3.blk kg0 hG.blk
      have hJ3 := hK3.blk ⟨hG.its.lt, bown_ne hG.own hG.its neIN⟩ hG.its
      have hne2 : some g0 ≠ (Value.slice A2 (N.length + 1) c2).ownBlock := bown_ne ho2 hB3 neBN
      have hG4 : GrS base g0 gi A Am n c cm leaf B (w3.setCell ⟨g0, 0, none⟩ (.slice A2 (N.length + 1) c2)) (.slice A2 (N.length + 1) c2) (N ++ [nd0 acc]) (I0 ++ (L ++ I1)) :=
        hG.to hH (hKG.setG hG.size (.inl rfl) _ _) (hB3.set 0 _) (by rw [List.length_append]; exact bown_far ho2 hne2 _ _) (hJ3.far _ _ (Blk.ne_ hB3 hJ3 neBI))
      have hK4 : KpB (KpG base g0 gi) W (w3.setCell ⟨g0, 0, none⟩ (.slice A2 (N.length + 1) c2)) := hKG.setG hG.size (.inl rfl) _ _
      have bl3 := hB3.lt
      have fr3 := hB3.frozen 0
      have c03 := hB3.cell 0
      clear b0 b1 b2 bl hIm_ hI0_ kA toK cellK sizeK hst_ hI
      go_upto_region 4 with (fail)
      generalize w3.setCell ⟨g0, 0, none⟩ (.slice A2 (N.length + 1) c2) = w4 at *
      have b4 := hG4.blk.cell 4
      have bl4 := hG4.blk.lt
      have lf0 := hH.leaf1
      obtain ⟨nb, hv2⟩ : ∃ nb, A2 = some ⟨nb, 0, none⟩ := by
        rcases hG4.own.2 with ⟨h1, h2⟩ | ⟨g, cap, cur, h1, _⟩
        · rw [List.length_append] at h2; simp at h2
        · rw [Value.slice.injEq] at h1; exact ⟨g, h1.1⟩
      subst hv2
      have hnb := bown_block hG4.own nb rfl
      clear hB3 hJ3 hne2 bl3 fr3 c03 hKG hK3 ho2
      by_cases hlf : L.length ≤ leaf
      · have hlf2 : (L.length : Int) ≤ (leaf : Int) := by omega
        go_upto_region 5 with (fail)
        have n0 := hG4.blk.cell 0
        have nbl : nb < w4.heap.size := hnb.1.2
        have hlen1 : (N ++ [nd0 acc]).length = N.length + 1 := by simp
        have own4 := hG4.own
        rw [hlen1] at own4
        have ndat : ∀ j, j < 10 → w4.cell? ⟨nb, N.length * 10 + j, none⟩ = (nd1 (nd0 acc))[j]? := fun j hj => by
          rw [own4.cellAt (N.length * 10 + j) (by omega), ndC_at _ _ (by simp) _ hj]
          simp
        have frz : ∀ i, w4.frozen? ⟨nb, i, none⟩ = false := fun i => by obtain ⟨_, cs, hcs⟩ := hnb; exact hcs.frozen i
        have hc1 : w4.cell? ⟨nb, N.length * 10 + 8, none⟩ = some (.int .i64 0) := ndat 8 (by omega)
        have hf1 : w4.frozen? ⟨nb, N.length * 10 + 8, none⟩ = false := frz _
        have hc2 : w4.cell? ⟨nb, N.length * 10 + 9, none⟩ = some (.int .i64 0) := ndat 9 (by omega)
        have hf2 : w4.frozen? ⟨nb, N.length * 10 + 9, none⟩ = false := frz _
        obtain ⟨us, hu_0, hu_1, hu_2⟩ : ∃ us : Nat → World, us 0 = w4.drew ∧ us 1 = (w4.setCell ⟨nb, N.length * 10 + 8, none⟩ (.int .i64 (I0.length : Int))).drew ∧ us 2 = ((w4.setCell ⟨nb, N.length * 10 + 8, none⟩ (.int .i64 (I0.length : Int))).setCell ⟨nb, N.length * 10 + 9, none⟩ (.int .i64 (L.length : Int))).drew := ⟨fun k => if k = 0 then w4.drew else if k = 1 then (w4.setCell ⟨nb, N.length * 10 + 8, none⟩ (.int .i64 (I0.length : Int))).drew else ((w4.setCell ⟨nb, N.length * 10 + 8, none⟩ (.int .i64 (I0.length : Int))).setCell ⟨nb, N.length * 10 + 9, none⟩ (.int .i64 (L.length : Int))).drew, rfl, rfl, rfl⟩
        have hn0 : ∀ u, (∃ k, k ≤ [16, 19].length ∧ u = us k) → u.cell? ⟨g0, 0, none⟩ = some (.slice (some ⟨nb, 0, none⟩) (N.length + 1) c2) := by
          have hng : nb ≠ g0 := by obtain ⟨_, cs, hcs⟩ := hnb; exact Blk.ne_ hcs hG4.blk (Ne.symm neBN)
          rintro u ⟨k, hk2, rfl⟩
          have hk3 : k ≤ 2 := hk2
          rcases (by omega : k = 0 ∨ k = 1 ∨ k = 2) with rfl | rfl | rfl
          · rw [hu_0]; exact n0
          · rw [hu_1]; exact ((hG4.blk.far _ _ hng).drew).cell 0
          · rw [hu_2]; exact (((hG4.blk.far _ _ hng).far _ _ hng).drew).cell 0
        have qa0 : (0 : Int) ≤ (N.length : Int) := by omega
        have qa1 : (N.length : Int) < (N.length : Int) + 1 := by omega
        obtain ⟨m, hm⟩ : ∃ m, m = N.length + 1 := ⟨_, rfl⟩
        obtain ⟨cm2, hcm2⟩ : ∃ m, m = c2 := ⟨_, rfl⟩
        refine wp_region_monoK2 20 (RKb [.pointer (some ⟨g0, 0, none⟩), .pointer (some ⟨g0, 0, none⟩), .pointer (some ⟨g0, 0, none⟩), .pointer (some ⟨g0, 0, none⟩), .slice (some ⟨nb, 0, none⟩) (N.length + 1) c2, .int .i64 (N.length : Int), .pointer (some ⟨g0, 0, none⟩), .pointer (some ⟨g0, 0, none⟩), .pointer (some ⟨g0, 0, none⟩), .pointer (some ⟨g0, 0, none⟩), .slice (some ⟨nb, 0, none⟩) (N.length + 1) c2, .int .i64 (N.length : Int), .int .i64 (I0.length : Int), .int .i64 (L.length : Int), .pointer (some ⟨nb, N.length * 10, none⟩), .pointer (some ⟨nb, N.length * 10 + 8, none⟩), undef, .pointer (some ⟨nb, N.length * 10, none⟩), .pointer (some ⟨nb, N.length * 10 + 9, none⟩), undef]) (PhN [16, 19] us) (by kernel_rfl) _ rfl (by kernel_rfl) (by kernel_rfl) (by kernel_rfl) (by kernel_rfl) (by kernel_rfl) (by have h := phN_start (ps := [16, 19]) (us := us) (n := 20) (by decide); rw [hu_0] at h; exact h) ?_ ?_
        · simp only [List.take_succ_cons, List.take_zero]
          refine ⟨?_, ?_, ?_, ?_, ?_, ?_, ?_, ?_, ?_, ?_, ?_, ?_, ?_, ?_, ?_, ?_, ?_, ?_, ?_, ?_, ?_⟩
          · refine monoN_read rfl (by decide) (fun a u hu hk hp => ?_)
            have es0 := (hk 0 (keep_of (by kernel_rfl))).trans (show _ = some (.pointer (some ⟨g0, 0, none⟩)) from rfl)
            exact ⟨_, by simp [execOp, go_sem, es0], rfl⟩
          · refine monoN_read rfl (by decide) (fun a u hu hk hp => ?_)
            obtain ⟨x0, ex0, rx0⟩ := hp ⟨0, .data⟩ (by simp) rfl _ _ rfl rfl
            obtain rfl : x0 = _ := rx0
            exact ⟨_, by simp [execOp, go_sem, ex0], rfl⟩
          · refine monoN_read rfl (by decide) (fun a u hu hk hp => ?_)
            obtain ⟨x1, ex1, rx1⟩ := hp ⟨1, .data⟩ (by simp) rfl _ _ rfl rfl
            obtain rfl : x1 = _ := rx1
            exact ⟨_, by simp [execOp, go_sem, ex1], rfl⟩
          · refine monoN_read rfl (by decide) (fun a u hu hk hp => ?_)
            obtain ⟨x2, ex2, rx2⟩ := hp ⟨2, .data⟩ (by simp) rfl _ _ rfl rfl
            obtain rfl : x2 = _ := rx2
            exact ⟨_, by simp [execOp, go_sem, ex2], rfl⟩
          · refine monoN_read rfl (by decide) (fun a u hu hk hp => ?_)
            obtain ⟨x3, ex3, rx3⟩ := hp ⟨3, .data⟩ (by simp) rfl _ _ rfl rfl
            obtain rfl : x3 = _ := rx3
            have fc0 := hn0 u hu
            exact ⟨_, by simp [execOp, go_sem, ex3, fc0], rfl⟩
          · refine monoN_read rfl (by decide) (fun a u hu hk hp => ?_)
            have es8 := (hk 8 (keep_of (by kernel_rfl))).trans (show _ = some (.int .i64 (N.length : Int)) from rfl)
            exact ⟨_, by simp [execOp, go_sem, es8], rfl⟩
          · refine monoN_read rfl (by decide) (fun a u hu hk hp => ?_)
            have es0 := (hk 0 (keep_of (by kernel_rfl))).trans (show _ = some (.pointer (some ⟨g0, 0, none⟩)) from rfl)
            exact ⟨_, by simp [execOp, go_sem, es0], rfl⟩
          · refine monoN_read rfl (by decide) (fun a u hu hk hp => ?_)
            obtain ⟨x6, ex6, rx6⟩ := hp ⟨6, .data⟩ (by simp) rfl _ _ rfl rfl
            obtain rfl : x6 = _ := rx6
            exact ⟨_, by simp [execOp, go_sem, ex6], rfl⟩
          · refine monoN_read rfl (by decide) (fun a u hu hk hp => ?_)
            obtain ⟨x7, ex7, rx7⟩ := hp ⟨7, .data⟩ (by simp) rfl _ _ rfl rfl
            obtain rfl : x7 = _ := rx7
            exact ⟨_, by simp [execOp, go_sem, ex7], rfl⟩
          · refine monoN_read rfl (by decide) (fun a u hu hk hp => ?_)
            obtain ⟨x8, ex8, rx8⟩ := hp ⟨8, .data⟩ (by simp) rfl _ _ rfl rfl
            obtain rfl : x8 = _ := rx8
            exact ⟨_, by simp [execOp, go_sem, ex8], rfl⟩
          · refine monoN_read rfl (by decide) (fun a u hu hk hp => ?_)
            obtain ⟨x9, ex9, rx9⟩ := hp ⟨9, .data⟩ (by simp) rfl _ _ rfl rfl
            obtain rfl : x9 = _ := rx9
            have fc0 := hn0 u hu
            exact ⟨_, by simp [execOp, go_sem, ex9, fc0], rfl⟩
          · refine monoN_read rfl (by decide) (fun a u hu hk hp => ?_)
            have es8 := (hk 8 (keep_of (by kernel_rfl))).trans (show _ = some (.int .i64 (N.length : Int)) from rfl)
            exact ⟨_, by simp [execOp, go_sem, es8], rfl⟩
          · refine monoN_read rfl (by decide) (fun a u hu hk hp => ?_)
            have es1 := (hk 1 (keep_of (by kernel_rfl))).trans (show _ = some (.int .i64 (I0.length : Int)) from rfl)
            exact ⟨_, by simp [execOp, go_sem, es1], rfl⟩
          · refine monoN_read rfl (by decide) (fun a u hu hk hp => ?_)
            have es2 := (hk 2 (keep_of (by kernel_rfl))).trans (show _ = some (.int .i64 (L.length : Int)) from rfl)
            exact ⟨_, by simp [execOp, go_sem, es2], rfl⟩
          · refine monoN_read rfl (by decide) (fun a u hu hk hp => ?_)
            obtain ⟨x4, ex4, rx4⟩ := hp ⟨4, .data⟩ (by simp) rfl _ _ rfl rfl
            obtain rfl : x4 = _ := rx4
            obtain ⟨x5, ex5, rx5⟩ := hp ⟨5, .data⟩ (by simp) rfl _ _ rfl rfl
            obtain rfl : x5 = _ := rx5
            have fc0 := qa0
            have fc1 := qa1
            exact ⟨_, by simp [execOp, go_sem, ex4, ex5, fc0, fc1], rfl⟩
          · refine monoN_read rfl (by decide) (fun a u hu hk hp => ?_)
            obtain ⟨x14, ex14, rx14⟩ := hp ⟨14, .data⟩ (by simp) rfl _ _ rfl rfl
            obtain rfl : x14 = _ := rx14
            exact ⟨_, by simp [execOp, go_sem, ex14], rfl⟩
          · refine monoN_store rfl rfl 0 (by decide) rfl (by decide) (.inl rfl) (fun a hk hp => ?_)
            rw [hu_0, hu_1]
            obtain ⟨x15, ex15, rx15⟩ := hp ⟨15, .data⟩ (by simp) rfl _ _ rfl rfl
            obtain rfl : x15 = _ := rx15
            obtain ⟨x12, ex12, rx12⟩ := hp ⟨12, .data⟩ (by simp) rfl _ _ rfl rfl
            obtain rfl : x12 = _ := rx12
            have fc0 := hc1
            have fc1 := hf1
            have fc2 := nbl
            simp [execOp, go_sem, ex15, ex12, fc0, fc1, fc2]
          · refine monoN_read rfl (by decide) (fun a u hu hk hp => ?_)
            obtain ⟨x10, ex10, rx10⟩ := hp ⟨10, .data⟩ (by simp) rfl _ _ rfl rfl
            obtain rfl : x10 = _ := rx10
            obtain ⟨x11, ex11, rx11⟩ := hp ⟨11, .data⟩ (by simp) rfl _ _ rfl rfl
            obtain rfl : x11 = _ := rx11
            have fc0 := qa0
            have fc1 := qa1
            exact ⟨_, by simp [execOp, go_sem, ex10, ex11, fc0, fc1], rfl⟩
          · refine monoN_read rfl (by decide) (fun a u hu hk hp => ?_)
            obtain ⟨x17, ex17, rx17⟩ := hp ⟨17, .data⟩ (by simp) rfl _ _ rfl rfl
            obtain rfl : x17 = _ := rx17
            exact ⟨_, by simp [execOp, go_sem, ex17], rfl⟩
          · refine monoN_store rfl rfl 1 (by decide) rfl (by decide) (.inr ⟨⟨16, .chain⟩, by simp, rfl, rfl⟩) (fun a hk hp => ?_)
            rw [hu_1, hu_2]
            obtain ⟨x18, ex18, rx18⟩ := hp ⟨18, .data⟩ (by simp) rfl _ _ rfl rfl
            obtain rfl : x18 = _ := rx18
            obtain ⟨x13, ex13, rx13⟩ := hp ⟨13, .data⟩ (by simp) rfl _ _ rfl rfl
            obtain rfl : x13 = _ := rx13
            have fc0 := hc2
            have fc1 := hf2
            have fc2 := nbl
            simp [execOp, go_sem, ex18, ex13, fc0, fc1, fc2]
          · trivial
        · intro a wz listed hJ hall hsz hdf hk hgot
          have hwz := phN_end hJ (by decide) hall
          simp only [List.length_cons, List.length_nil, Nat.reduceAdd, hu_2] at hwz
          clear hJ
          subst hwz
          obtain ⟨vv0, ev0, rv0⟩ := hgot 0 _ 52 rfl rfl
          obtain rfl : vv0 = _ := rv0
          obtain ⟨f, hf, rfl⟩ := frame_eq hsz hdf hk [52, 53, 54, 55, 56, 57, 58, 59, 60, 61, 62, 63, 64, 65, 66, 67, 68, 69] (by rfl)
          have f52 := hf 52 _ ev0
          clear hsz hdf hk hgot hf hall ev0
          simp only [List.drop_succ_cons, List.drop_zero, setAll, List.setIfInBounds_toArray, List.set_cons_succ, List.set_cons_zero, f52]
          clear f52
          generalize f 53 = uu53; generalize f 54 = uu54; generalize f 55 = uu55; generalize f 56 = uu56; generalize f 57 = uu57; generalize f 58 = uu58; generalize f 59 = uu59; generalize f 60 = uu60; generalize f 61 = uu61; generalize f 62 = uu62; generalize f 63 = uu63; generalize f 64 = uu64; generalize f 65 = uu65; generalize f 66 = uu66; generalize f 67 = uu67; generalize f 68 = uu68; generalize f 69 = uu69
          have hS := hG4.store2 hH (nb := nb) rfl N.length (by simp) 8 9 (by omega) (by omega) (.int .i64 (I0.length : Int)) (.int .i64 (L.length : Int)) ⟨acc, I0.length, L.length, 0, 0⟩ (by simp [nd1, nd0]) ⟨⟨acc, I0.length, 0, 0, 0⟩, by simp [nd1, nd0]⟩
          have hset : (N ++ [nd0 acc]).set N.length ⟨acc, I0.length, L.length, 0, 0⟩ = N ++ [⟨acc, I0.length, L.length, 0, 0⟩] := by simp
          rw [hset] at hS
          clear hset hc1 hf1 hc2 hf2 hn0 hu_0 hu_1 hu_2 ndat frz own4 nbl n0 b4 bl4
          generalize ((w4.setCell ⟨nb, N.length * 10 + 8, none⟩ (.int .i64 (I0.length : Int))).setCell ⟨nb, N.length * 10 + 9, none⟩ (.int .i64 (L.length : Int))).drew = w5 at *
          go_wp2
          go_ret
          refine ⟨rfl, .slice (some ⟨nb, 0, none⟩) (N.length + 1) c2, ?_, hK4.trans hS.2⟩
          rw [growT_leaf B k I0.length hlf]
          have hT := hS.1
          rw [hacc.out] at hT
          simpa only [Tr.lay, Tr.its] using hT
      · obtain ⟨k', rfl⟩ : ∃ k', k = k' + 1 := by
          cases k with
          | zero => simp at hLk; omega
          | succ k => exact ⟨k, rfl⟩
        have hlf2 : (leaf : Int) < (L.length : Int) := by omega
        have IH := ih k' rfl
        have hp2 := half_pow hLk
        obtain ⟨S, hS⟩ : ∃ S, S = srtB B (axL B L) L := ⟨_, rfl⟩
        have hSl : S.length = L.length := by rw [hS]; exact srtB_len _ _ _
        have hSp : S.Perm L := by rw [hS]; exact srtB_perm _ _ _
        have kS := bsort_any w4 g0 gi Am n cm B _ _ _ _ hG4.blk hG4.ml (fun b o e => (hH.am b o e).2.2) I0 L I1 hG4.its hin (by have := hH.n1; omega) hL0 (by omega) (s - I0.length) (by omega) hH.bx
        rw [← hS] at kS
        obtain ⟨h, hh⟩ : ∃ h, h = (L.length + 1) / 2 := ⟨_, rfl⟩
        have e1 : (S.take h).length = h := by rw [List.length_take, hSl]; omega
        have e2 : (S.drop h).length = L.length - h := by rw [List.length_drop, hSl]
        have htd : ((L.length : Int) + 1) / 2 = (h : Int) := by omega
        have hin' : ∀ i ∈ S, i < n := fun i hi => hin i (hSp.mem_iff.1 hi)
        obtain ⟨hx0, hx1, hx2⟩ : 0 < h ∧ h < L.length ∧ h ≤ 300 := by omega
        have hpa : h ≤ 2 ^ k' ∧ L.length - h ≤ 2 ^ k' := by rw [hh]; exact hp2
        replace hh := Lib.hid hh
        replace hS := Lib.hid hS
        replace htd := Lib.hid htd
        go_upto_region 7 with (fail)
        go_upto_region 8 with (first | (go_at_call 82; (with_reducible refine kS.mono ?_); rintro e W5 ⟨rfl, hK5, hI5⟩) | fail)
        have hg01 : g0 ≠ gi := Blk.ne_ hG4.blk hG4.its neBI
        have hK5G : KpB (KpG base g0 gi) w4 W5 := hK5.less (fun b hb => ⟨Nat.lt_of_lt_of_le hb.1 hG4.size, hb.2.2⟩)
        have hGb5 := hK5.blk ⟨hG4.blk.lt, hg01⟩ hG4.blk
        have hlI : (I0 ++ (L ++ I1)).length = (I0 ++ (S ++ I1)).length := by simp only [List.length_append, hSl]
        rw [hlI] at hGb5
        have hG5 : GrS base g0 gi A Am n c cm leaf B W5 (.slice (some ⟨nb, 0, none⟩) (N.length + 1) c2) (N ++ [nd0 acc]) (I0 ++ (S.take h ++ (S.drop h ++ I1))) := by
          have hSd : S.take h ++ (S.drop h ++ I1) = S ++ I1 := by rw [← List.append_assoc, List.take_append_drop]
          rw [hSd]
          exact hG4.to hH hK5G hGb5 (hK5.own hG4.own (fun b e => by cases e; exact ⟨hnb.1.2, fun e2 => bown_ne hG4.own hG4.its neIN (by rw [← e2]; rfl)⟩)) hI5
        have hK5W := hK4.trans hK5G
        have hl1 : (N ++ [nd0 acc]).length = N.length + 1 := by simp
        have hli : (I0 ++ (S.take h ++ (S.drop h ++ I1))).length ≤ 300 := by
          have : (I0 ++ (S.take h ++ (S.drop h ++ I1))).length = (I0 ++ (L ++ I1)).length := by rw [← List.append_assoc (S.take h), List.take_append_drop]; exact hlI.symm
          omega
        have kL := IH W5 _ (N ++ [nd0 acc]) I0 (S.take h) (S.drop h ++ I1) hG5 (by omega) (by rw [e1]; exact hpa.1) (fun i hi => hin' i (List.mem_of_mem_take hi)) hli (by rw [hl1, e1]; omega)
        rw [e1, hl1] at kL
        obtain ⟨t1, ht1⟩ : ∃ t, t = growT B leaf k' I0.length (S.take h) := ⟨_, rfl⟩
        rw [← ht1] at kL
        have h1i : t1.its.length = h := by rw [ht1, (grow_its B leaf k' _ _).length_eq, e1]
        have h1s : t1.sz + 1 ≤ 2 * h := by rw [ht1]; have := grow_sz B lf0.1 k' I0.length (S.take h) (by omega) (by rw [e1]; exact hpa.1); rw [e1] at this; exact this
        clear hGb5 hG5 hK5 hK5G hG4 hI5 kS b4 bl4
        go_upto_region 9 with (fail)
        simp only [htd.out]
        replace ht1 := Lib.hid ht1
        go_upto_region 10 with (first | (go_at_call 47; (with_reducible refine kL.mono ?_); rintro e W6 ⟨rfl, v6, hG6, hK6⟩) | fail)
        have hK6W := hK5W.trans hK6
        have hl6 : (N ++ [nd0 acc] ++ t1.lay B (N.length + 1)).length = N.length + 1 + t1.sz := by simp only [List.length_append, List.length_cons, List.length_nil, lay_len]
        have hG6' : GrS base g0 gi A Am n c cm leaf B W6 v6 (N ++ [nd0 acc] ++ t1.lay B (N.length + 1)) ((I0 ++ t1.its) ++ (S.drop h ++ I1)) := by rw [List.append_assoc I0]; exact hG6
        have hli2 : ((I0 ++ t1.its) ++ (S.drop h ++ I1)).length ≤ 300 := by
          simp only [List.length_append, h1i, e2, hSl] at hlI hI3 ⊢
          omega
        have kR := IH W6 v6 _ (I0 ++ t1.its) (S.drop h) I1 hG6' (by omega) (by rw [e2]; exact hpa.2) (fun i hi => hin' i (List.mem_of_mem_drop hi)) hli2 (by rw [hl6, e2]; omega)
        have hf1 : ((I0 ++ t1.its).length : Int) = (I0.length : Int) + (h : Int) := by rw [List.length_append, h1i]; omega
        have hf2 : ((S.drop h).length : Int) = (L.length : Int) - (h : Int) := by rw [e2]; omega
        have hf3 : (I0 ++ t1.its).length = I0.length + h := by rw [List.length_append, h1i]
        rw [hf1, hf2, hl6, hf3] at kR
        clear hf1 hf2 hf3
        obtain ⟨t2, ht2⟩ : ∃ t, t = growT B leaf k' (I0.length + h) (S.drop h) := ⟨_, rfl⟩
        rw [← ht2] at kR
        replace ht2 := Lib.hid ht2
        go_upto_region 11 with (first | (go_at_call 47; (with_reducible refine kR.mono ?_); rintro e W7 ⟨rfl, v7, hG7, hK7⟩) | fail)
        have hK7W := hK6W.trans hK7
        clear kR kL hG6 hG6' hK6 hK7 hK5W hK6W hK4 hnb hq2
        obtain ⟨M7, hM7⟩ : ∃ M, M = N ++ [nd0 acc] ++ t1.lay B (N.length + 1) ++ t2.lay B (N.length + 1 + t1.sz) := ⟨_, rfl⟩
        have hM7l : N.length < M7.length := by rw [hM7]; simp
        have hM7e : N ++ (nd0 acc :: (t1.lay B (N.length + 1) ++ t2.lay B (N.length + 1 + t1.sz))) = M7 := by rw [hM7]; simp
        have hM7g : M7[N.length]'hM7l = nd0 acc := by simp [hM7]
        rw [← hM7] at hG7
        replace hM7 := Lib.hid hM7
        obtain ⟨nb, m, c2, rfl, hm⟩ : ∃ nb m c2, v7 = .slice (some ⟨nb, 0, none⟩) m c2 ∧ m = M7.length := by
          rcases hG7.own.2 with ⟨h1, h2⟩ | ⟨g, cap, cur, h1, _⟩
          · omega
          · exact ⟨g, _, cap, h1, rfl⟩
        have own7 := hG7.own
        rw [← hm] at own7
        have hnb := bown_block own7 nb rfl
        have n0 := hG7.blk.cell 0
        have nbl : nb < W7.heap.size := hnb.1.2
        have qa1 : (N.length : Int) < (m : Int) := by omega
        have ndat : ∀ j, j < 10 → W7.cell? ⟨nb, N.length * 10 + j, none⟩ = (nd1 (nd0 acc))[j]? := fun j hj => by
          rw [own7.cellAt (N.length * 10 + j) (by omega), ndC_at _ _ hM7l _ hj, hM7g]
        have frz : ∀ i, W7.frozen? ⟨nb, i, none⟩ = false := fun i => by obtain ⟨_, cs, hcs⟩ := hnb; exact hcs.frozen i
        have hc1 : W7.cell? ⟨nb, N.length * 10 + 6, none⟩ = some (.int .i64 0) := ndat 6 (by omega)
        have hf1 : W7.frozen? ⟨nb, N.length * 10 + 6, none⟩ = false := frz _
        have hc2 : W7.cell? ⟨nb, N.length * 10 + 7, none⟩ = some (.int .i64 0) := ndat 7 (by omega)
        have hf2 : W7.frozen? ⟨nb, N.length * 10 + 7, none⟩ = false := frz _
        obtain ⟨us, hu_0, hu_1, hu_2⟩ : ∃ us : Nat → World, us 0 = W7.drew ∧ us 1 = (W7.setCell ⟨nb, N.length * 10 + 6, none⟩ (.int .i64 ((N.length : Int) + 1))).drew ∧ us 2 = ((W7.setCell ⟨nb, N.length * 10 + 6, none⟩ (.int .i64 ((N.length : Int) + 1))).setCell ⟨nb, N.length * 10 + 7, none⟩ (.int .i64 ((N.length : Int) + 1 + (t1.sz : Int)))).drew := ⟨fun k => if k = 0 then W7.drew else if k = 1 then (W7.setCell ⟨nb, N.length * 10 + 6, none⟩ (.int .i64 ((N.length : Int) + 1))).drew else ((W7.setCell ⟨nb, N.length * 10 + 6, none⟩ (.int .i64 ((N.length : Int) + 1))).setCell ⟨nb, N.length * 10 + 7, none⟩ (.int .i64 ((N.length : Int) + 1 + (t1.sz : Int)))).drew, rfl, rfl, rfl⟩
        have hn0 : ∀ u, (∃ k, k ≤ [16, 19].length ∧ u = us k) → u.cell? ⟨g0, 0, none⟩ = some (.slice (some ⟨nb, 0, none⟩) m c2) := by
          have hng : nb ≠ g0 := by obtain ⟨_, cs, hcs⟩ := hnb; exact Blk.ne_ hcs hG7.blk (Ne.symm neBN)
          rintro u ⟨k, hk2, rfl⟩
          have hk3 : k ≤ 2 := hk2
          rcases (by omega : k = 0 ∨ k = 1 ∨ k = 2) with rfl | rfl | rfl
          · rw [hu_0]; exact n0
          · rw [hu_1]; exact ((hG7.blk.far _ _ hng).drew).cell 0
          · rw [hu_2]; exact (((hG7.blk.far _ _ hng).far _ _ hng).drew).cell 0
        have qa0 : (0 : Int) ≤ (N.length : Int) := by omega
        replace hm := Lib.hid hm
        refine wp_region_monoK2 20 (RKb [.pointer (some ⟨g0, 0, none⟩), .pointer (some ⟨g0, 0, none⟩), .pointer (some ⟨g0, 0, none⟩), .pointer (some ⟨g0, 0, none⟩), .slice (some ⟨nb, 0, none⟩) m c2, .int .i64 (N.length : Int), .pointer (some ⟨g0, 0, none⟩), .pointer (some ⟨g0, 0, none⟩), .pointer (some ⟨g0, 0, none⟩), .pointer (some ⟨g0, 0, none⟩), .slice (some ⟨nb, 0, none⟩) m c2, .int .i64 (N.length : Int), .int .i64 ((N.length : Int) + 1 : Int), .int .i64 ((N.length : Int) + 1 + (t1.sz : Int) : Int), .pointer (some ⟨nb, N.length * 10, none⟩), .pointer (some ⟨nb, N.length * 10 + 6, none⟩), undef, .pointer (some ⟨nb, N.length * 10, none⟩), .pointer (some ⟨nb, N.length * 10 + 7, none⟩), undef]) (PhN [16, 19] us) (by kernel_rfl) _ rfl (by kernel_rfl) (by kernel_rfl) (by kernel_rfl) (by kernel_rfl) (by kernel_rfl) (by have h := phN_start (ps := [16, 19]) (us := us) (n := 20) (by decide); rw [hu_0] at h; exact h) ?_ ?_
        · simp only [List.take_succ_cons, List.take_zero]
          refine ⟨?_, ?_, ?_, ?_, ?_, ?_, ?_, ?_, ?_, ?_, ?_, ?_, ?_, ?_, ?_, ?_, ?_, ?_, ?_, ?_, ?_⟩
          · refine monoN_read rfl (by decide) (fun a u hu hk hp => ?_)
            have es0 := (hk 0 (keep_of (by kernel_rfl))).trans (show _ = some (.pointer (some ⟨g0, 0, none⟩)) from rfl)
            exact ⟨_, by simp [execOp, go_sem, es0], rfl⟩
          · refine monoN_read rfl (by decide) (fun a u hu hk hp => ?_)
            obtain ⟨x0, ex0, rx0⟩ := hp ⟨0, .data⟩ (by simp) rfl _ _ rfl rfl
            obtain rfl : x0 = _ := rx0
            exact ⟨_, by simp [execOp, go_sem, ex0], rfl⟩
          · refine monoN_read rfl (by decide) (fun a u hu hk hp => ?_)
            obtain ⟨x1, ex1, rx1⟩ := hp ⟨1, .data⟩ (by simp) rfl _ _ rfl rfl
            obtain rfl : x1 = _ := rx1
            exact ⟨_, by simp [execOp, go_sem, ex1], rfl⟩
          · refine monoN_read rfl (by decide) (fun a u hu hk hp => ?_)
            obtain ⟨x2, ex2, rx2⟩ := hp ⟨2, .data⟩ (by simp) rfl _ _ rfl rfl
            obtain rfl : x2 = _ := rx2
            exact ⟨_, by simp [execOp, go_sem, ex2], rfl⟩
          · refine monoN_read rfl (by decide) (fun a u hu hk hp => ?_)
            obtain ⟨x3, ex3, rx3⟩ := hp ⟨3, .data⟩ (by simp) rfl _ _ rfl rfl
            obtain rfl : x3 = _ := rx3
            have fc0 := hn0 u hu
            exact ⟨_, by simp [execOp, go_sem, ex3, fc0], rfl⟩
          · refine monoN_read rfl (by decide) (fun a u hu hk hp => ?_)
            have es8 := (hk 8 (keep_of (by kernel_rfl))).trans (show _ = some (.int .i64 (N.length : Int)) from rfl)
            exact ⟨_, by simp [execOp, go_sem, es8], rfl⟩
          · refine monoN_read rfl (by decide) (fun a u hu hk hp => ?_)
            have es0 := (hk 0 (keep_of (by kernel_rfl))).trans (show _ = some (.pointer (some ⟨g0, 0, none⟩)) from rfl)
            exact ⟨_, by simp [execOp, go_sem, es0], rfl⟩
          · refine monoN_read rfl (by decide) (fun a u hu hk hp => ?_)
            obtain ⟨x6, ex6, rx6⟩ := hp ⟨6, .data⟩ (by simp) rfl _ _ rfl rfl
            obtain rfl : x6 = _ := rx6
            exact ⟨_, by simp [execOp, go_sem, ex6], rfl⟩
          · refine monoN_read rfl (by decide) (fun a u hu hk hp => ?_)
            obtain ⟨x7, ex7, rx7⟩ := hp ⟨7, .data⟩ (by simp) rfl _ _ rfl rfl
            obtain rfl : x7 = _ := rx7
            exact ⟨_, by simp [execOp, go_sem, ex7], rfl⟩
          · refine monoN_read rfl (by decide) (fun a u hu hk hp => ?_)
            obtain ⟨x8, ex8, rx8⟩ := hp ⟨8, .data⟩ (by simp) rfl _ _ rfl rfl
            obtain rfl : x8 = _ := rx8
            exact ⟨_, by simp [execOp, go_sem, ex8], rfl⟩
          · refine monoN_read rfl (by decide) (fun a u hu hk hp => ?_)
            obtain ⟨x9, ex9, rx9⟩ := hp ⟨9, .data⟩ (by simp) rfl _ _ rfl rfl
            obtain rfl : x9 = _ := rx9
            have fc0 := hn0 u hu
            exact ⟨_, by simp [execOp, go_sem, ex9, fc0], rfl⟩
          · refine monoN_read rfl (by decide) (fun a u hu hk hp => ?_)
            have es8 := (hk 8 (keep_of (by kernel_rfl))).trans (show _ = some (.int .i64 (N.length : Int)) from rfl)
            exact ⟨_, by simp [execOp, go_sem, es8], rfl⟩
          · refine monoN_read rfl (by decide) (fun a u hu hk hp => ?_)
            have es10 := (hk 10 (keep_of (by kernel_rfl))).trans (show _ = some (.int .i64 ((N.length : Int) + 1 : Int)) from rfl)
            exact ⟨_, by simp [execOp, go_sem, es10], rfl⟩
          · refine monoN_read rfl (by decide) (fun a u hu hk hp => ?_)
            have es11 := (hk 11 (keep_of (by kernel_rfl))).trans (show _ = some (.int .i64 ((N.length : Int) + 1 + (t1.sz : Int) : Int)) from rfl)
            exact ⟨_, by simp [execOp, go_sem, es11], rfl⟩
          · refine monoN_read rfl (by decide) (fun a u hu hk hp => ?_)
            obtain ⟨x4, ex4, rx4⟩ := hp ⟨4, .data⟩ (by simp) rfl _ _ rfl rfl
            obtain rfl : x4 = _ := rx4
            obtain ⟨x5, ex5, rx5⟩ := hp ⟨5, .data⟩ (by simp) rfl _ _ rfl rfl
            obtain rfl : x5 = _ := rx5
            have fc0 := qa0
            have fc1 := qa1
            exact ⟨_, by simp [execOp, go_sem, ex4, ex5, fc0, fc1], rfl⟩
          · refine monoN_read rfl (by decide) (fun a u hu hk hp => ?_)
            obtain ⟨x14, ex14, rx14⟩ := hp ⟨14, .data⟩ (by simp) rfl _ _ rfl rfl
            obtain rfl : x14 = _ := rx14
            exact ⟨_, by simp [execOp, go_sem, ex14], rfl⟩
          · refine monoN_store rfl rfl 0 (by decide) rfl (by decide) (.inl rfl) (fun a hk hp => ?_)
            rw [hu_0, hu_1]
            obtain ⟨x15, ex15, rx15⟩ := hp ⟨15, .data⟩ (by simp) rfl _ _ rfl rfl
            obtain rfl : x15 = _ := rx15
            obtain ⟨x12, ex12, rx12⟩ := hp ⟨12, .data⟩ (by simp) rfl _ _ rfl rfl
            obtain rfl : x12 = _ := rx12
            have fc0 := hc1
            have fc1 := hf1
            have fc2 := nbl
            simp [execOp, go_sem, ex15, ex12, fc0, fc1, fc2]
          · refine monoN_read rfl (by decide) (fun a u hu hk hp => ?_)
            obtain ⟨x10, ex10, rx10⟩ := hp ⟨10, .data⟩ (by simp) rfl _ _ rfl rfl
            obtain rfl : x10 = _ := rx10
            obtain ⟨x11, ex11, rx11⟩ := hp ⟨11, .data⟩ (by simp) rfl _ _ rfl rfl
            obtain rfl : x11 = _ := rx11
            have fc0 := qa0
            have fc1 := qa1
            exact ⟨_, by simp [execOp, go_sem, ex10, ex11, fc0, fc1], rfl⟩
          · refine monoN_read rfl (by decide) (fun a u hu hk hp => ?_)
            obtain ⟨x17, ex17, rx17⟩ := hp ⟨17, .data⟩ (by simp) rfl _ _ rfl rfl
            obtain rfl : x17 = _ := rx17
            exact ⟨_, by simp [execOp, go_sem, ex17], rfl⟩
          · refine monoN_store rfl rfl 1 (by decide) rfl (by decide) (.inr ⟨⟨16, .chain⟩, by simp, rfl, rfl⟩) (fun a hk hp => ?_)
            rw [hu_1, hu_2]
            obtain ⟨x18, ex18, rx18⟩ := hp ⟨18, .data⟩ (by simp) rfl _ _ rfl rfl
            obtain rfl : x18 = _ := rx18
            obtain ⟨x13, ex13, rx13⟩ := hp ⟨13, .data⟩ (by simp) rfl _ _ rfl rfl
            obtain rfl : x13 = _ := rx13
            have fc0 := hc2
            have fc1 := hf2
            have fc2 := nbl
            simp [execOp, go_sem, ex18, ex13, fc0, fc1, fc2]
          · trivial
        · intro a wz listed hJ hall hsz hdf hk hgot
          have hwz := phN_end hJ (by decide) hall
          simp only [List.length_cons, List.length_nil, Nat.reduceAdd, hu_2] at hwz
          clear hJ
          subst hwz
          obtain ⟨vv0, ev0, rv0⟩ := hgot 0 _ 89 rfl rfl
          obtain rfl : vv0 = _ := rv0
          obtain ⟨f, hf, rfl⟩ := frame_eq hsz hdf hk [89, 90, 91, 92, 93, 94, 95, 96, 97, 98, 99, 100, 101, 102, 103, 104, 105, 106] (by rfl)
          have f89 := hf 89 _ ev0
          clear hsz hdf hk hgot hf hall ev0
          simp only [List.drop_succ_cons, List.drop_zero, setAll, List.setIfInBounds_toArray, List.set_cons_succ, List.set_cons_zero, f89]
          clear f89
          generalize f 90 = uu90; generalize f 91 = uu91; generalize f 92 = uu92; generalize f 93 = uu93; generalize f 94 = uu94; generalize f 95 = uu95; generalize f 96 = uu96; generalize f 97 = uu97; generalize f 98 = uu98; generalize f 99 = uu99; generalize f 100 = uu100; generalize f 101 = uu101; generalize f 102 = uu102; generalize f 103 = uu103; generalize f 104 = uu104; generalize f 105 = uu105; generalize f 106 = uu106
          have hSt := hG7.store2 hH (nb := nb) rfl N.length hM7l 6 7 (by omega) (by omega) (.int .i64 ((N.length : Int) + 1)) (.int .i64 ((N.length : Int) + 1 + (t1.sz : Int))) ⟨acc, 0, 0, N.length + 1, N.length + 1 + t1.sz⟩ (by rw [hM7g]; simp [nd1, nd0]) ⟨⟨acc, 0, 0, N.length + 1, 0⟩, by rw [hM7g]; simp [nd1, nd0]⟩
          have hset : M7.set N.length ⟨acc, 0, 0, N.length + 1, N.length + 1 + t1.sz⟩ = N ++ (⟨acc, 0, 0, N.length + 1, N.length + 1 + t1.sz⟩ :: (t1.lay B (N.length + 1) ++ t2.lay B (N.length + 1 + t1.sz))) := by rw [← hM7e]; simp
          rw [hset] at hSt
          clear hset hc1 hf1 hc2 hf2 hn0 hu_0 hu_1 hu_2 ndat frz own7 nbl n0
          generalize ((W7.setCell ⟨nb, N.length * 10 + 6, none⟩ (.int .i64 ((N.length : Int) + 1))).setCell ⟨nb, N.length * 10 + 7, none⟩ (.int .i64 ((N.length : Int) + 1 + (t1.sz : Int)))).drew = w8 at *
          go_wp2
          go_ret
          refine ⟨rfl, .slice (some ⟨nb, 0, none⟩) m c2, ?_, hK7W.trans hSt.2⟩
          rw [growT_node B k' I0.length hlf, ← hS.out, ← hh.out, ← ht1.out, ← ht2.out]
          have hT := hSt.1
          rw [hacc.out] at hT
          simpa only [Tr.lay, Tr.its, List.append_assoc] using hT
theorem bgrow_any (base g0 gi : Nat) (A Am : Option Addr) (n c cm leaf : Nat) (B : Nat → Bx) (hH : GrH base g0 gi A Am n leaf B) : ∀ k, BGrow base g0 gi A Am n c cm leaf B k
  | 0 => bgrow_step base g0 gi A Am n c cm leaf B hH 0 (fun k' h => by omega)
  | k + 1 => bgrow_step base g0 gi A Am n c cm leaf B hH (k + 1) (fun k' h => by
    obtain rfl : k = k' := by omega
    exact bgrow_any base g0 gi A Am n c cm leaf B hH k)
end Go.Proofs.Ythadlpkdfnonjaa
namespace Go.Proofs.Ythadlpkdfnonjaa
open Go.RowKit
set_option linter.unusedVariables false
set_option linter.unusedSimpArgs false
set_option linter.unnecessarySimpa false
set_option maxRecDepth 100000
/-- Are all boxes within the bounds? -/
def allOk (B : Nat → Bx) : Nat → Bool
  | 0 => true
  | n + 1 => allOk B n && okBx (B n)
theorem allOk_iff (B : Nat → Bx) : ∀ n, allOk B n = true ↔ ∀ i, i < n → okBx (B i) = true
  | 0 => ⟨fun _ i h => by omega, fun _ => rfl⟩
  | n + 1 => by
    unfold allOk
    rw [Bool.and_eq_true, allOk_iff B n]
    constructor
    · rintro ⟨h1, h2⟩ i hi
      by_cases e : i = n
      · subst e; exact h2
      · exact h1 i (by omega)
    · intro h; exact ⟨fun i hi => h i (by omega), h n (by omega)⟩
theorem allOk_not {B : Nat → Bx} {n k : Nat} (hk : k < n) (h : okBx (B k) = false) : allOk B n = false := by
  cases hb : allOk B n with
  | false => rfl
  | true => rw [(allOk_iff B n).1 hb k hk] at h; cases h
set_option maxHeartbeats 1000000 in
theorem idxFar_any (W : World) (A : Option Addr) (n c : Nat) (B : Nat → Bx) (hB : BxR W A n B) (hn : n ≤ 1099511627776) :
    Calls Try.prog 80 #[.slice A n c, .func (.func 46) #[] #[]] W fun e W' => (∃ r : Int, e = .returned (.int .i64 r) ∧ decide (0 ≤ r) = !allOk B n) ∧ Below W.heap.size W W' := by
  go_enter Try.func80, Try.ntmps80
  go_wp2_with fail
  go_loopw [8, 5] (fun iv jv wr => ∃ k : Nat, iv = .int .i64 (k : Int) ∧ k ≤ n ∧ Below W.heap.size W wr ∧ Hid (∀ i, i < k → okBx (B i) = true)) (fun iv _ _ => n - (intOf iv).toNat)
  case atStart => exact ⟨0, rfl, by omega, Below.refl _ _, Lib.hid fun i h => absurd h (by omega)⟩
  case round =>
    obtain ⟨k, rfl, hk, hb, hok⟩ := hrel
    by_cases hkn : k < n
    · obtain ⟨b, off, rfl, hbl, c0, c1, c2, c3, c4, c5⟩ := (hB.below hb).at_ k hkn
      have q0 : (0 : Int) ≤ (k : Int) := by omega
      have q1 : (k : Int) < (n : Int) := by omega
      have kf := far_any (B k)
      cases hq : okBx (B k)
      · have hno := Lib.hid (allOk_not hkn hq)
        rw [hq] at kf
        clear hq hB
        generalize B k = bx at *
        go_wp2_with (first | ((with_reducible refine (kf.at_ _).mono ?_); rintro e w' ⟨rfl, xg, rfl⟩) | fail)
        go_ret
        exact ⟨⟨_, rfl, by rw [hno.out]; simp⟩, bel_grow hb xg⟩
      · have hok' : Hid (∀ i, i < k + 1 → okBx (B i) = true) := Lib.hid fun i hi => by
          by_cases e : i = k
          · rw [e]; exact hq
          · exact hok.out i (by omega)
        rw [hq] at kf
        clear hq hB
        generalize hbx : B k = bx at c0 c1 c2 c3 c4 c5 kf
        clear hbx
        go_wp2_with (first | ((with_reducible refine (kf.at_ _).mono ?_); rintro e w' ⟨rfl, xg, rfl⟩) | fail)
        go_roundw
        case rel => exact ⟨k + 1, by go_num, by omega, bel_grow hb xg, hok'⟩
        case measure => simp [intOf]; omega
    · obtain rfl : k = n := by omega
      have hy := Lib.hid ((allOk_iff B k).2 hok.out)
      go_wp2
      go_ret
      exact ⟨⟨-1, rfl, by rw [hy.out]; rfl⟩, hb⟩
theorem hasFar_any (W : World) (A : Option Addr) (n c : Nat) (B : Nat → Bx) (hB : BxR W A n B) (hn : n ≤ 1099511627776) :
    Calls Try.prog 45 #[.slice A n c, .func (.func 46) #[] #[]] W fun e W' => e = .returned (.bool (!allOk B n)) ∧ Below W.heap.size W W' := by
  have kI := idxFar_any W A n c B hB hn
  go_enter Try.func45, Try.ntmps45
  go_wp2_with (first | (go_at_call 80; (with_reducible refine kI.mono ?_); rintro e w' ⟨⟨r, rfl, hr⟩, hb⟩; replace hr := Lib.hid hr) | fail)
  all_goals
    go_ret
    refine ⟨ret_bool ?_, hb⟩
    rw [← hr.out]
    try simp
end Go.Proofs.Ythadlpkdfnonjaa
namespace Go.Proofs.Ythadlpkdfnonjaa
open Go.RowKit
set_option linter.unusedVariables false
set_option linter.unusedSimpArgs false
/-- The cells of n structs of k cells each. -/
def rowCs (k n : Nat) (h : Nat → Nat → Value) : Array Value := ((List.range (n * k)).map fun j => h (j / k) (j % k)).toArray
theorem rowCs_size (k n : Nat) (h : Nat → Nat → Value) : (rowCs k n h).size = n * k := by simp [rowCs]
theorem row_split {k v j : Nat} (hj : j < k) : (v * k + j) / k = v ∧ (v * k + j) % k = j := by
  have hk : 0 < k := by omega
  have h1 : (v * k + j) / k = v := by rw [Nat.mul_comm, Nat.mul_add_div hk, Nat.div_eq_of_lt hj, Nat.add_zero]
  have h2 : (v * k + j) % k = j := by rw [Nat.mul_comm, Nat.mul_add_mod, Nat.mod_eq_of_lt hj]
  exact ⟨h1, h2⟩
theorem row_lt {k n v j : Nat} (hv : v < n) (hj : j < k) : v * k + j < n * k := by
  have : (v + 1) * k ≤ n * k := Nat.mul_le_mul_right k hv
  rw [Nat.add_mul] at this; omega
theorem rowCs_at {k n : Nat} (h : Nat → Nat → Value) {v j : Nat} (hv : v < n) (hj : j < k) : (rowCs k n h)[v * k + j]? = some (h v j) := by
  unfold rowCs
  rw [List.getElem?_toArray, List.getElem?_map, List.getElem?_range (row_lt hv hj)]
  obtain ⟨e1, e2⟩ := row_split (v := v) hj
  simp [e1, e2]
def setC (h : Nat → Nat → Value) (v j : Nat) (u : Value) : Nat → Nat → Value := fun a b => if a = v ∧ b = j then u else h a b
theorem rowCs_ext {k n : Nat} {h g : Nat → Nat → Value} (e : ∀ v j, v < n → j < k → h v j = g v j) : rowCs k n h = rowCs k n g := by
  rcases Nat.eq_zero_or_pos k with rfl | hk
  · simp [rowCs]
  unfold rowCs
  congr 1
  apply List.map_congr_left
  intro i hi
  have hi2 : i < n * k := by simpa using hi
  have : i / k < n := Nat.div_lt_of_lt_mul (by rw [Nat.mul_comm]; exact hi2)
  exact e _ _ this (Nat.mod_lt _ hk)
theorem rowCs_made {z : Array Value} {k n : Nat} (hz : z.size = k) (hk : 0 < k) : madeCells z (n * k) = rowCs k n (fun _ j => z.getD j default) := by
  apply Array.ext
  · simp [size_madeCells, rowCs_size]
  · intro i h1 h2
    simp only [madeCells, rowCs, Array.getElem_map, Array.getElem_range, List.getElem_toArray, List.getElem_map, List.getElem_range]
    rw [hz]
    have : i % k < z.size := by rw [hz]; exact Nat.mod_lt _ hk
    simp [Array.getD, this, getElem!_pos]
end Go.Proofs.Ythadlpkdfnonjaa
namespace Go.Proofs.Ythadlpkdfnonjaa
open Go.RowKit
set_option linter.unusedVariables false
set_option linter.unusedSimpArgs false
set_option linter.unnecessarySimpa false
set_option maxRecDepth 100000
theorem bthere_row {W : World} {g n k : Nat} {t : TypeId} {h : Nat → Nat → Value} (hB : Blk W g t (rowCs k n h)) {v : Nat} (hv : v < n) : W.there g (v * k) k := fun j hj => by
  refine ⟨by rw [hB.cell, rowCs_at h hv hj]; rfl, hB.frozen _⟩
theorem bset_cells {t : TypeId} {g : Nat} : ∀ (vs : List Value) (W : World) (cs : Array Value) (o : Nat), Blk W g t cs → ∃ cs', Blk (W.setCells g o vs) g t cs' ∧ cs'.size = cs.size ∧ ∀ i, i < cs.size → cs'[i]? = if o ≤ i ∧ i < o + vs.length then vs[i - o]? else cs[i]?
  | [], W, cs, o, h => ⟨cs, h, rfl, fun i hi => by rw [if_neg (by simp)]⟩
  | v :: r, W, cs, o, h => by
    obtain ⟨cs', h1, h2, h3⟩ := bset_cells r _ _ (o + 1) (h.set o v)
    refine ⟨cs', h1, by rw [h2]; simp, fun i hi => ?_⟩
    rw [h3 i (by simpa using hi)]
    by_cases e : i = o
    · subst e
      rw [if_neg (by omega), if_pos (by simp)]
      simp [hi]
    · by_cases e2 : o + 1 ≤ i ∧ i < o + 1 + r.length
      · rw [if_pos e2, if_pos (by simp; omega), show i - o = (i - (o + 1)) + 1 by omega, List.getElem?_cons_succ]
      · rw [if_neg e2, if_neg (by simp; omega)]
        simp [Array.getElem?_setIfInBounds, Ne.symm e]
theorem bbel_cells {g : Nat} {W : World} (hg : W.heap.size ≤ g) : ∀ (vs : List Value) (W' : World) (o : Nat), Below W.heap.size W W' → Below W.heap.size W (W'.setCells g o vs)
  | [], W', o, h => h
  | v :: r, W', o, h => bbel_cells hg r _ (o + 1) (bel_set h (by simpa using hg) v)
theorem bmade_blk {W1 : World} {base g n size : Nat} {e : TypeId} {z : Array Value} (own1 : W1.ownsRow base e size (.slice (some ⟨g, 0, none⟩) n n) n (madeCells z (n * size)).toList) : Blk W1 g e (madeCells z (n * size)) := by
  obtain ⟨_, h | ⟨g2, cap, cur, h1, h2, h3, h4, h5, h6, h7⟩⟩ := own1
  · simp at h
  · simp only [Value.slice.injEq, Option.some.injEq, Addr.mk.injEq, and_true] at h1
    obtain ⟨rfl, rfl⟩ : g = g2 ∧ n = cap := by
      refine ⟨h1.1, ?_⟩
      have := h1.2
      omega
    unfold Blk
    rw [h3]
    have e : cur = madeCells z (n * size) := by
      apply Array.ext'
      rw [List.take_of_length_le (by simp [h6])] at h7
      exact h7
    rw [e]

theorem us3 (a b c : World) : ∃ us : Nat → World, us 0 = a ∧ us 1 = b ∧ us 2 = c := ⟨fun j => if j = 0 then a else if j = 1 then b else c, rfl, rfl, rfl⟩
theorem size_cells (g : Nat) : ∀ (vs : List Value) (W : World) (o : Nat), (W.setCells g o vs).heap.size = W.heap.size
  | [], W, o => rfl
  | v :: r, W, o => (size_cells g r _ (o + 1)).trans (by simp [World.setCell])
theorem bfar_cells {t : TypeId} {g b : Nat} (hb : b ≠ g) : ∀ (vs : List Value) (W : World) (cs : Array Value) (o : Nat), Blk W g t cs → Blk (W.setCells b o vs) g t cs
  | [], W, cs, o, h => h
  | v :: r, W, cs, o, h => bfar_cells hb r _ cs (o + 1) (h.far o v hb)
theorem brun_mid {a : Act} {o : Oper} {w : World} (ty : TypeId) (x y : Operand) (ho : o.op = .store ty x y) (b off : Nat) (cells : Array Value) (hx : a.eval x = .pointer (some ⟨b, off, none⟩)) (hy : a.eval y = .agg cells) (ht : w.there b off cells.size) (hi : (Try.prog.info? ty).map (·.size) = some cells.size) (h1 : cells.all (·.oneCell') = true) :
    (execOp a.eval o).run Try.prog w = .ok .skip (w.setCells b off cells.toList) := by
  unfold execOp
  simp only [ho, hx, hy, Instr.storeAt, Instr.sureAddr, Sem.run_bind, Sem.run_pure, Result.andThen_ok, run_storeVar_mid w b off ty cells ht hi h1]
/-- Numbers, laid as far as k. -/
def itC (k n : Nat) : Array Value := ((List.range n).map fun j => Value.int .i64 (if j < k then (j : Int) else 0)).toArray
theorem itC_size (k n : Nat) : (itC k n).size = n := by simp [itC]
theorem itC_at (k n j : Nat) (h : j < n) : (itC k n)[j]? = some (.int .i64 (if j < k then (j : Int) else 0)) := by simp [itC, h]
theorem itC_set {k n : Nat} (h : k < n) : (itC k n).setIfInBounds k (.int .i64 (k : Int)) = itC (k + 1) n := by
  apply Array.ext_getElem?
  intro j
  rw [Array.getElem?_setIfInBounds, itC_size]
  by_cases hj : j < n
  · by_cases e : k = j
    · subst e; rw [if_pos rfl, if_pos h, itC_at _ _ _ hj, if_pos (by omega)]
    · rw [if_neg e, itC_at _ _ _ hj, itC_at _ _ _ hj]
      by_cases e2 : j < k
      · rw [if_pos e2, if_pos (by omega)]
      · rw [if_neg e2, if_neg (by omega)]
  · have e1 : (itC k n)[j]? = none := by simp [itC, hj]
    have e2 : (itC (k + 1) n)[j]? = none := by simp [itC, hj]
    rw [e1, e2, if_neg (by omega)]
theorem itC_zero (n : Nat) : madeCells #[.int .i64 0] (n * 1) = itC 0 n := by
  apply Array.ext
  · simp [size_madeCells, itC_size]
  · intro i h1 h2
    simp [madeCells, itC, Nat.mod_one]
theorem itC_all (n : Nat) : itC n n = (znC (List.range n)).toArray := by
  apply Array.ext_getElem?
  intro j
  by_cases hj : j < n
  · rw [itC_at _ _ _ hj, if_pos hj]; simp [znC, hj]
  · have e1 : (itC n n)[j]? = none := by simp [itC, hj]
    rw [e1]; simp [znC, hj]
/-- Boxes' middles, laid as far as k. -/
def mdC (B : Nat → Bx) (k n : Nat) : Array Value := rowCs 6 n fun i j => if i < k then (bxC (mB B i)).getD j default else .int .i64 0
theorem mdC_size (B : Nat → Bx) (k n : Nat) : (mdC B k n).size = n * 6 := rowCs_size _ _ _
theorem mdC_zero (B : Nat → Bx) (n : Nat) : madeCells #[.int .i64 0, .int .i64 0, .int .i64 0, .int .i64 0, .int .i64 0, .int .i64 0] (n * 6) = mdC B 0 n := by
  rw [rowCs_made (k := 6) rfl (by omega)]
  refine rowCs_ext fun v j hv hj => ?_
  rw [if_neg (by omega)]
  match j, hj with
  | 0, _ => rfl
  | 1, _ => rfl
  | 2, _ => rfl
  | 3, _ => rfl
  | 4, _ => rfl
  | 5, _ => rfl
theorem mdC_set {W : World} {t : TypeId} {g n k : Nat} {B : Nat → Bx} (h : Blk W g t (mdC B k n)) (hk : k < n) : Blk (W.setCells g (k * 6) (bxC (mB B k)).toList) g t (mdC B (k + 1) n) := by
  obtain ⟨cs', h1, h2, h3⟩ := bset_cells (bxC (mB B k)).toList _ _ (k * 6) h
  rw [mdC_size] at h2 h3
  have : cs' = mdC B (k + 1) n := by
    refine Array.ext (by rw [h2, mdC_size]) fun i hi hi2 => ?_
    have e := h3 i (by omega)
    rw [Array.length_toList, show (bxC (mB B k)).size = 6 from rfl] at e
    have hi3 : i / 6 < n := by rw [h2] at hi; omega
    have hi4 : i % 6 < 6 := by omega
    have g1 : ∀ k', (mdC B k' n)[i]? = some (if i / 6 < k' then (bxC (mB B (i / 6))).getD (i % 6) default else .int .i64 0) := fun k' => by
      have := rowCs_at (k := 6) (n := n) (fun i j => if i < k' then (bxC (mB B i)).getD j default else Value.int .i64 0) hi3 hi4
      rw [show i / 6 * 6 + i % 6 = i by omega] at this
      exact this
    refine Option.some.inj ?_
    rw [← Array.getElem?_eq_getElem, ← Array.getElem?_eq_getElem, e, g1, g1]
    by_cases hh : i / 6 = k
    · rw [if_pos (by omega), if_pos (by omega), hh, show i - k * 6 = i % 6 by omega]
      simp only [Array.getElem?_toList, Array.getD_eq_getD_getElem?]
      have : i % 6 < (bxC (mB B k)).size := hi4
      rw [Array.getElem?_eq_getElem this]; rfl
    · rw [if_neg (by omega)]
      by_cases h7 : i / 6 < k
      · rw [if_pos h7, if_pos (by omega)]
      · rw [if_neg h7, if_neg (by omega)]
  rw [← this]
  exact h1
theorem mdC_bl {W : World} {g n : Nat} {t : TypeId} {B : Nat → Bx} (h : Blk W g t (mdC B n n)) : BxR W (some ⟨g, 0, none⟩) n (mB B) := fun hn => by
  refine ⟨g, 0, rfl, h.lt, fun i hi j hj => ?_⟩
  rw [h.cell, Nat.zero_add, mdC, rowCs_at _ hi hj, if_pos hi]
  have : j < (bxC (mB B i)).size := hj
  rw [Array.getD_eq_getD_getElem?, Array.getElem?_eq_getElem this]; rfl
theorem mdC_there {W : World} {t : TypeId} {g n k : Nat} {B : Nat → Bx} (h : Blk W g t (mdC B k n)) (hk : k < n) : W.there g (k * 6) 6 := bthere_row h hk
end Go.Proofs.Ythadlpkdfnonjaa
