/- The edges: how they stand in a row, and the row sorted. -/
import Derived.Test.YtbehobojgeganaaTop4
import Derived.Test.YtbehobojgeganaaTop2
import Derived.Sort.OwnSorted
import Derived.Shelf.SlSortCmp.NoneTotal
namespace Go.Proofs.Ytbehobojgeganaa
open Go.RowKit Go.Sort
set_option linter.unusedVariables false
set_option linter.unusedSimpArgs false
set_option linter.unnecessarySimpa false
set_option maxRecDepth 100000
def encE (al : List Way) (p : Int × Int) : List Value := [.int .i64 p.1, .int .i64 p.2, .int .i64 (faceOf al p.1 p.2), .int .i64 (faceOf al p.2 p.1)]
def edCs (al : List Way) (L : List (Int × Int)) : List Value := L.flatMap (encE al)
theorem edCs_len (al : List Way) : ∀ L, (edCs al L).length = L.length * 4
  | [] => rfl
  | p :: L => by
    have := edCs_len al L
    unfold edCs at *
    simp only [List.flatMap_cons, List.length_append, List.length_cons, this]
    simp [encE]; omega
theorem edCs_snoc (al : List Way) (L : List (Int × Int)) (p : Int × Int) : edCs al (L ++ [p]) = edCs al L ++ encE al p := by simp [edCs]
theorem edCs_get (al : List Way) : ∀ (L : List (Int × Int)) (i c : Nat) (h : i < L.length) (hc : c < 4), (edCs al L)[i * 4 + c]? = (encE al L[i])[c]?
  | [], i, c, h, _ => by simp at h
  | p :: L, 0, c, h, hc => by
    unfold edCs
    rw [List.flatMap_cons, List.getElem?_append_left (by simp [encE]; omega)]
    simp
  | p :: L, i + 1, c, h, hc => by
    have hi : i < L.length := by simpa using h
    have := edCs_get al L i c hi hc
    unfold edCs at *
    rw [List.flatMap_cons, List.getElem?_append_right (by simp [encE]; omega)]
    simp only [List.getElem_cons_succ]
    rw [← this]
    congr 1
    simp [encE]; omega
theorem flat_edCs (al : List Way) (L : List (Int × Int)) : (flatK (encE al) 4 L.toArray).toList = edCs al L := by
  apply List.ext_getElem?
  intro j
  by_cases hj : j < L.length * 4
  · have h1 : j / 4 < L.length := by omega
    have e : j = j / 4 * 4 + j % 4 := by omega
    rw [show (edCs al L)[j]? = (edCs al L)[j / 4 * 4 + j % 4]? by rw [← e], edCs_get al L _ _ h1 (by omega)]
    have hm : j % 4 < (encE al L[j / 4]).length := by simp [encE]; omega
    simp only [flatK, Array.toList_map, List.getElem?_map, List.size_toArray]
    rw [Array.getElem?_toList, Array.getElem?_range]
    simp only [hj, if_true, Option.map_some]
    rw [List.getElem?_eq_getElem hm]
    congr 1
    have e2 : L.toArray[j / 4]! = L[j / 4] := by rw [getElem!_pos _ _ (by simpa using h1)]; simp
    rw [e2, getElem!_pos (encE al L[j / 4]) (j % 4) hm]
  · rw [List.getElem?_eq_none (by simp [flatK]; omega), List.getElem?_eq_none (by rw [edCs_len]; omega)]
/-! the row, sorted -/
theorem srt_heap {w : World} {g n : Nat} {os : Array Obj} {cur : Array Value} {e : TypeId} {fr : Nat × Nat} (F : Array Value) (hb : w.heap[g]? = some (.cells cur e fr)) :
    (Go.Sort.grow (putRow id (Sort.ahead w n) g 0 F) os).heap[g]? = some (.cells (putCells id 0 F cur) e fr) := by
  have hg : g < w.heap.size := (Array.getElem?_eq_some_iff.1 hb).1
  rw [heap_grow_old _ _ (by simpa using hg)]
  simp [putRow, mapBlock, Sort.ahead, Array.getElem?_modify, hb, onCells]
theorem srt_grown {w : World} {g n : Nat} {os : Array Obj} (F : Array Value) : w.grownBy (Go.Sort.grow (putRow id (Sort.ahead w n) g 0 F) os) (some g) := by
  refine ⟨rfl, rfl, rfl, by simp, fun k hk hne => ?_⟩
  rw [heap_grow_old _ _ (by simpa using hk)]
  have : g ≠ k := fun e => hne (by rw [e])
  simp [putRow, mapBlock, Sort.ahead, Array.getElem?_modify, this]
theorem srt_take (cur : Array Value) (F : Array Value) (h : F.size ≤ cur.size) : (putCells id 0 F cur).toList.take F.size = F.toList := by
  apply List.ext_getElem?
  intro j
  by_cases hj : j < F.size
  · rw [List.getElem?_take_of_lt hj, Array.getElem?_toList]
    simp [putCells, hj, show j < cur.size by omega]
  · rw [List.getElem?_take_eq_none (by omega), List.getElem?_eq_none (by simp; omega)]
theorem srt_own {al : List Way} {w : World} {base g cap n : Nat} {e : TypeId} {os : Array Obj} {L M : List (Int × Int)} (hl : M.length = L.length) (ho : w.ownsRow base e 4 (.slice (some ⟨g, 0, none⟩) L.length cap) L.length (edCs al L)) :
    (Go.Sort.grow (putRowK (encE al) 4 (Sort.ahead w n) g 0 M.toArray) os).ownsRow base e 4 (.slice (some ⟨g, 0, none⟩) L.length cap) L.length (edCs al M) := by
  obtain ⟨h0, ⟨h1, _⟩ | ⟨g', cap', cur, h1, h2, h3, h4, h5, h6, h7⟩⟩ := ho
  · cases h1
  · cases h1
    have hF : (flatK (encE al) 4 M.toArray).size = L.length * 4 := by simp [hl]
    refine ⟨by rw [edCs_len, hl], .inr ⟨g, cap, _, rfl, h2, srt_heap _ h3, h4, h5, by simp [putCells, h6], ?_⟩⟩
    have := srt_take cur (flatK (encE al) 4 M.toArray) (by rw [hF, h6]; omega)
    rw [hF] at this
    rw [this, flat_edCs]
theorem srt_holds {al : List Way} {w : World} {base g cap : Nat} {e : TypeId} {L : List (Int × Int)} (ho : w.ownsRow base e 4 (.slice (some ⟨g, 0, none⟩) L.length cap) L.length (edCs al L)) : HoldsK (encE al) 4 w g 0 L.toArray ∧ g < w.heap.size := by
  obtain ⟨h0, ⟨h1, _⟩ | ⟨g', cap', cur, h1, h2, h3, h4, h5, h6, h7⟩⟩ := ho
  · cases h1
  · cases h1
    refine ⟨fun j hj => ⟨?_, by simp [World.frozen?, h3]⟩, (Array.getElem?_eq_some_iff.1 h3).1⟩
    have hj' : j < L.length * 4 := by simpa using hj
    have e1 : (cur.toList.take (L.length * 4))[j]? = (edCs al L)[j]? := by rw [h7]
    rw [List.getElem?_take_of_lt hj', ← flat_edCs] at e1
    simp only [World.cell?, h3, Nat.zero_add, Option.isSome_none, Bool.false_eq_true, if_false]
    rw [← Array.getElem?_toList, e1, Array.getElem?_toList, getElem?_pos (flatK (encE al) 4 L.toArray) j hj, getElem!_pos (flatK (encE al) 4 L.toArray) j hj]
    rfl
/-! the order -/
def cfE (x y : Int × Int) : Int := cf2 x.1 x.2 y.1 y.2
theorem cfE_lt (x y : Int × Int) : ltOf cfE x y = true ↔ x.1 < y.1 ∨ (x.1 = y.1 ∧ x.2 < y.2) := by
  unfold ltOf cfE cf2 orI Lib.compareInt
  simp only [decide_eq_true_eq]
  repeat' split
  all_goals omega
theorem cfE_nlt (x y : Int × Int) : ltOf cfE x y = false ↔ ¬ (x.1 < y.1 ∨ (x.1 = y.1 ∧ x.2 < y.2)) := by
  rw [← cfE_lt]; simp
theorem cfE_swo : SWO (ltOf cfE) where
  irrefl x := by rw [cfE_nlt]; omega
  trans x y z h k := by rw [cfE_lt] at *; omega
  ntrans x y z h k := by rw [cfE_nlt] at *; omega
theorem cfE_total (x y : Int × Int) (h : ltOf cfE x y = false) (k : ltOf cfE y x = false) : x = y := by
  rw [cfE_nlt] at *
  exact Prod.ext (by omega) (by omega)
def srt (L : List (Int × Int)) : List (Int × Int) := L.mergeSort fun x y => !(ltOf cfE) y x
theorem srt_perm (L : List (Int × Int)) : (srt L).Perm L := List.mergeSort_perm _ _
theorem srt_pw (L : List (Int × Int)) (hn : L.Nodup) : (srt L).Pairwise fun x y => x.1 < y.1 ∨ (x.1 = y.1 ∧ x.2 < y.2) := by
  have h1 : (srt L).Pairwise fun x y => (!(ltOf cfE) y x) = true := List.pairwise_mergeSort (fun a b c h k => by
    simp only [Bool.not_eq_true', cfE_nlt] at *; omega) (fun a b => by
    simp only [Bool.or_eq_true, Bool.not_eq_true', cfE_nlt]; omega) L
  have h2 : (srt L).Nodup := (srt_perm L).nodup_iff.2 hn
  rw [List.nodup_iff_pairwise_ne] at h2
  refine List.Pairwise.imp₂ (fun x y h k => ?_) h1 h2
  simp only [Bool.not_eq_true', cfE_nlt] at h
  have : ¬(x.1 = y.1 ∧ x.2 = y.2) := fun e => k (Prod.ext e.1 e.2)
  omega
set_option maxHeartbeats 1000000 in
theorem sort_any (al : List Way) (W : World) (base g cap : Nat) (L : List (Int × Int)) (ho : W.ownsRow base 38 4 (.slice (some ⟨g, 0, none⟩) L.length cap) L.length (edCs al L)) (hsz : L.length < 4611686018427387904) :
    Calls Try.prog 61 #[.slice (some ⟨g, 0, none⟩) L.length cap, .func (.func 62) #[] #[]] W fun e W' =>
      e = .returned (.tuple #[]) ∧ W.grownBy W' (some g) ∧ W'.ownsRow base 38 4 (.slice (some ⟨g, 0, none⟩) L.length cap) L.length (edCs al (srt L)) := by
  obtain ⟨hH, hg⟩ := srt_holds ho
  have := AnyQ.slices_SortFunc_total Try.sort61 4 (by intro w; exact Try.isAgg38 w) (by intro w; exact Try.sizeOf38 w) (encE al) (fun x => rfl) (fun x v hv => by
      simp only [encE, List.mem_cons, List.not_mem_nil, or_false] at hv
      rcases hv with rfl | rfl | rfl | rfl <;> rfl) cfE cfE_swo 62 #[] g 0 cap L.toArray W (enters_of (f := 62) Try.func62 (by kernel_rfl) rfl) (fun m os dk hdk x y => ?_) hH hg (by simpa using hsz) cfE_total
  · have this2 : Calls Try.prog 61 #[.slice (some ⟨g, 0, none⟩) L.length cap, .func (.func 62) #[] #[]] W fun e w' => e = .returned (.tuple #[]) ∧ ∃ n os, w' = sortWorldK (encE al) 4 W g 0 n (srt L).toArray os := this
    refine this2.mono ?_
    rintro e W' ⟨he, n, os, rfl⟩
    exact ⟨he, srt_grown _, srt_own (by rw [(srt_perm L).length_eq]) ho⟩
  · refine (sorter_any _ _ _ _ _ _ _ _ _).mono ?_
    rintro e W' ⟨he, z, rfl⟩
    refine ⟨he, ?_⟩
    generalize sortWorldK (encE al) 4 W g 0 m dk os = U
    have hk := z.kept U
    refine ⟨(z.to U).drawn - U.drawn, ((z.to U).heap.toList.drop U.heap.size).toArray, ?_⟩
    have e1 : (z.to U).heap = U.heap ++ ((z.to U).heap.toList.drop U.heap.size).toArray := by
      apply Array.ext'
      rw [Array.toList_append]
      apply List.ext_getElem?
      intro i
      rcases Nat.lt_or_ge i U.heap.size with hi | hi
      · rw [List.getElem?_append_left (by simpa using hi), Array.getElem?_toList, Array.getElem?_toList]
        exact hk.block i hi
      · rw [List.getElem?_append_right (by simpa using hi)]
        simp only [Array.length_toList, List.getElem?_drop]
        congr 1; omega
    have e2 : U.drawn + ((z.to U).drawn - U.drawn) = (z.to U).drawn := by have := hk.drw; omega
    show z.to U = Go.Sort.grow (U.drewN _) _
    unfold Go.Sort.grow World.drewN
    have h1 := hk.bel.os
    have h2 := hk.bel.tape
    have h3 := hk.bel.output
    rw [← e1, e2, ← h1, ← h2, ← h3]
end Go.Proofs.Ytbehobojgeganaa
