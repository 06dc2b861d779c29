/- The document's own Reader: a name's place. -/
import Derived.Test.YtdkgbdecmgligaaGreatDoorMScnAB
import Derived.Test.YtdkgbdecmgligaaGreatDoorMLexC
namespace Go.Proofs.YtdkgbdecmgligaaGreatDoor
open Go.RowKit
set_option linter.unusedVariables false
set_option linter.unusedSimpArgs false
/-- Names stand at each so many cells of a row. -/
def NF (W : World) (A : Option Addr) (sz : Nat) (names : List Wd) : Prop := 0 < names.length → ∃ b off, A = some ⟨b, off, none⟩ ∧ b < W.heap.size ∧ ∀ i, i < names.length → W.cell? ⟨b, off + i * sz, none⟩ = some (.string ⟨(names.getD i []).toArray⟩)
theorem NF.below {W W' : World} {A : Option Addr} {sz : Nat} {names : List Wd} (h : NF W A sz names) (hb : Below W.heap.size W W') : NF W' A sz names := fun hn => by
  obtain ⟨b, off, e, hl, hc⟩ := h hn
  exact ⟨b, off, e, Nat.lt_of_lt_of_le hl hb.size, fun i hi => (hb.cell (p := ⟨b, _, none⟩) hl).trans (hc i hi)⟩
theorem place_some (name : Wd) : ∀ (l : List Wd) (k : Nat), k < l.length → l.getD k [] = name → (∀ j, j < k → l.getD j [] ≠ name) → place name l = some k
  | [], k, h, _, _ => by simp at h
  | x :: l, 0, _, h, _ => by
    unfold place
    rw [if_pos (by simpa using h)]
  | x :: l, k + 1, hk, h, hj => by
    unfold place
    have h0 := hj 0 (by omega)
    rw [if_neg (by simpa using h0), place_some name l k (by simpa using hk) (by simpa using h) fun j hj2 => by have := hj (j + 1) (by omega); simpa using this]
    rfl
theorem place_none (name : Wd) : ∀ (l : List Wd), (∀ j, j < l.length → l.getD j [] ≠ name) → place name l = none
  | [], _ => rfl
  | x :: l, hj => by
    unfold place
    have h0 := hj 0 (by simp)
    rw [if_neg (by simpa using h0), place_none name l fun j hj2 => by have := hj (j + 1) (by simpa using hj2); simpa using this]
    rfl
theorem eqW (a b : Wd) : ((⟨a.toArray⟩ : ByteArray).toList == (⟨b.toArray⟩ : ByteArray).toList) = decide (a = b) := by
  have e : ∀ x : Wd, (⟨x.toArray⟩ : ByteArray).toList = x := fun x => by rw [ByteArray.toList_eq]
  rw [e, e, Bool.eq_iff_iff]
  simp
set_option maxHeartbeats 1000000 in
theorem mat_core (w : World) (g : Nat) (A : Option Addr) (n c : Nat) (names : List Wd) (name : Wd) (hn : names.length = n) (hn2 : n ≤ 1048576) (hc : w.cell? ⟨g, 20, none⟩ = some (.slice A n c)) (hN : NF w A 9 names) (r : Int) (hr : placeI name names = r) :
    Calls Tryz.prog 99 #[.pointer (some ⟨g, 0, none⟩), .string ⟨name.toArray⟩] w fun e w' => e = .returned (.int .i64 r) ∧ ∃ x, w' = grow w x := by
  have HR := Lib.hid hr
  clear hr
  have hgl : g < w.heap.size := World.block_lt_of_cell? w ⟨g, 20, none⟩ hc
  go_enter Tryz.func99, Tryz.ntmps99
  go_wp2
  go_loop [5] (fun i => ∃ k : Nat, i = .int .i64 (k : Int) ∧ k ≤ n ∧ Hid (∀ j, j < k → names.getD j [] ≠ name)) (fun i => n - (intOf i).toNat)
  case atStart => exact ⟨0, rfl, by omega, Lib.hid (fun j h => by omega)⟩
  case round =>
    obtain ⟨k, rfl, hk, hall⟩ := hrel
    by_cases hlt : k < n
    · obtain ⟨b, off, rfl, hbl, hcell⟩ := hN (by omega)
      have hx := hcell k (by omega)
      have k0 : (0 : Int) ≤ (k : Int) := by omega
      have k1 : (k : Int) < (n : Int) := by omega
      have EQ := eqW (names.getD k []) name
      have ON := Lib.hid (show names.getD k [] = name → (k : Int) = r from fun q => by
        rw [← HR.out]; unfold placeI; rw [place_some name names k (by omega) q hall.out])
      have OFF := Lib.hid (show names.getD k [] ≠ name → ∀ j, j < k + 1 → names.getD j [] ≠ name from fun q j hj => by
        by_cases e : j = k
        · subst e; exact q
        · exact hall.out j (by omega))
      generalize names.getD k [] = x at *
      clear hcell hN
      by_cases q : x = name
      · rw [decide_eq_true q] at EQ
        have EQ2 : (x == name) = true := by simpa using q
        have HF := Lib.hid (ON.out q)
        clear ON OFF q
        go_wp2
        go_ret
        exact ⟨by rw [← HF.out]; rfl, grow_of (Below.refl _ _)⟩
      · rw [decide_eq_false q] at EQ
        have EQ2 : (x == name) = false := by simpa using q
        have HF := Lib.hid (OFF.out q)
        clear ON OFF q
        go_wp2
        go_round
        case rel => exact ⟨k + 1, by go_num, by omega, HF⟩
        case measure => simp [intOf] <;> omega
    · obtain rfl : k = n := by omega
      have HF := Lib.hid (show r = -1 by rw [← HR.out]; unfold placeI; rw [place_none name names fun j hj => hall.out j (by omega)])
      go_wp2
      go_ret
      exact ⟨by rw [HF.out]; rfl, grow_of (Below.refl _ _)⟩
set_option maxHeartbeats 1000000 in
theorem tex_core (w : World) (g : Nat) (A : Option Addr) (n c : Nat) (names : List Wd) (name : Wd) (hn : names.length = n) (hn2 : n ≤ 1048576) (hc : w.cell? ⟨g, 21, none⟩ = some (.slice A n c)) (hN : NF w A 4 names) (r : Int) (hr : placeI name names = r) :
    Calls Tryz.prog 98 #[.pointer (some ⟨g, 0, none⟩), .string ⟨name.toArray⟩] w fun e w' => e = .returned (.int .i64 r) ∧ ∃ x, w' = grow w x := by
  have HR := Lib.hid hr
  clear hr
  have hgl : g < w.heap.size := World.block_lt_of_cell? w ⟨g, 21, none⟩ hc
  go_enter Tryz.func98, Tryz.ntmps98
  go_wp2
  go_loop [5] (fun i => ∃ k : Nat, i = .int .i64 (k : Int) ∧ k ≤ n ∧ Hid (∀ j, j < k → names.getD j [] ≠ name)) (fun i => n - (intOf i).toNat)
  case atStart => exact ⟨0, rfl, by omega, Lib.hid (fun j h => by omega)⟩
  case round =>
    obtain ⟨k, rfl, hk, hall⟩ := hrel
    by_cases hlt : k < n
    · obtain ⟨b, off, rfl, hbl, hcell⟩ := hN (by omega)
      have hx := hcell k (by omega)
      have k0 : (0 : Int) ≤ (k : Int) := by omega
      have k1 : (k : Int) < (n : Int) := by omega
      have EQ := eqW (names.getD k []) name
      have ON := Lib.hid (show names.getD k [] = name → (k : Int) = r from fun q => by
        rw [← HR.out]; unfold placeI; rw [place_some name names k (by omega) q hall.out])
      have OFF := Lib.hid (show names.getD k [] ≠ name → ∀ j, j < k + 1 → names.getD j [] ≠ name from fun q j hj => by
        by_cases e : j = k
        · subst e; exact q
        · exact hall.out j (by omega))
      generalize names.getD k [] = x at *
      clear hcell hN
      by_cases q : x = name
      · rw [decide_eq_true q] at EQ
        have EQ2 : (x == name) = true := by simpa using q
        have HF := Lib.hid (ON.out q)
        clear ON OFF q
        go_wp2
        go_ret
        exact ⟨by rw [← HF.out]; rfl, grow_of (Below.refl _ _)⟩
      · rw [decide_eq_false q] at EQ
        have EQ2 : (x == name) = false := by simpa using q
        have HF := Lib.hid (OFF.out q)
        clear ON OFF q
        go_wp2
        go_round
        case rel => exact ⟨k + 1, by go_num, by omega, HF⟩
        case measure => simp [intOf] <;> omega
    · obtain rfl : k = n := by omega
      have HF := Lib.hid (show r = -1 by rw [← HR.out]; unfold placeI; rw [place_none name names fun j hj => hall.out j (by omega)])
      go_wp2
      go_ret
      exact ⟨by rw [HF.out]; rfl, grow_of (Below.refl _ _)⟩
set_option maxHeartbeats 1000000 in
theorem cage_core (w : World) (g : Nat) (A : Option Addr) (n c : Nat) (names : List Wd) (name : Wd) (hn : names.length = n) (hn2 : n ≤ 1048576) (hc : w.cell? ⟨g, 22, none⟩ = some (.slice A n c)) (hN : NF w A 6 names) (r : Int) (hr : placeI name names = r) :
    Calls Tryz.prog 100 #[.pointer (some ⟨g, 0, none⟩), .string ⟨name.toArray⟩] w fun e w' => e = .returned (.int .i64 r) ∧ ∃ x, w' = grow w x := by
  have HR := Lib.hid hr
  clear hr
  have hgl : g < w.heap.size := World.block_lt_of_cell? w ⟨g, 22, none⟩ hc
  go_enter Tryz.func100, Tryz.ntmps100
  go_wp2
  go_loop [5] (fun i => ∃ k : Nat, i = .int .i64 (k : Int) ∧ k ≤ n ∧ Hid (∀ j, j < k → names.getD j [] ≠ name)) (fun i => n - (intOf i).toNat)
  case atStart => exact ⟨0, rfl, by omega, Lib.hid (fun j h => by omega)⟩
  case round =>
    obtain ⟨k, rfl, hk, hall⟩ := hrel
    by_cases hlt : k < n
    · obtain ⟨b, off, rfl, hbl, hcell⟩ := hN (by omega)
      have hx := hcell k (by omega)
      have k0 : (0 : Int) ≤ (k : Int) := by omega
      have k1 : (k : Int) < (n : Int) := by omega
      have EQ := eqW (names.getD k []) name
      have ON := Lib.hid (show names.getD k [] = name → (k : Int) = r from fun q => by
        rw [← HR.out]; unfold placeI; rw [place_some name names k (by omega) q hall.out])
      have OFF := Lib.hid (show names.getD k [] ≠ name → ∀ j, j < k + 1 → names.getD j [] ≠ name from fun q j hj => by
        by_cases e : j = k
        · subst e; exact q
        · exact hall.out j (by omega))
      generalize names.getD k [] = x at *
      clear hcell hN
      by_cases q : x = name
      · rw [decide_eq_true q] at EQ
        have EQ2 : (x == name) = true := by simpa using q
        have HF := Lib.hid (ON.out q)
        clear ON OFF q
        go_wp2
        go_ret
        exact ⟨by rw [← HF.out]; rfl, grow_of (Below.refl _ _)⟩
      · rw [decide_eq_false q] at EQ
        have EQ2 : (x == name) = false := by simpa using q
        have HF := Lib.hid (OFF.out q)
        clear ON OFF q
        go_wp2
        go_round
        case rel => exact ⟨k + 1, by go_num, by omega, HF⟩
        case measure => simp [intOf] <;> omega
    · obtain rfl : k = n := by omega
      have HF := Lib.hid (show r = -1 by rw [← HR.out]; unfold placeI; rw [place_none name names fun j hj => hall.out j (by omega)])
      go_wp2
      go_ret
      exact ⟨by rw [HF.out]; rfl, grow_of (Below.refl _ _)⟩
end Go.Proofs.YtdkgbdecmgligaaGreatDoor

/- Rows of numbers and cages that are the same. -/
namespace Go.Proofs.YtdkgbdecmgligaaGreatDoor
open Go.RowKit
set_option linter.unusedVariables false
set_option linter.unusedSimpArgs false
/-- Cells lie from an address on. -/
def CF (W : World) (A : Option Addr) (cs : List Value) : Prop := 0 < cs.length → ∃ b off, A = some ⟨b, off, none⟩ ∧ b < W.heap.size ∧ ∀ i, i < cs.length → W.cell? ⟨b, off + i, none⟩ = cs[i]?
theorem CF.below {W W' : World} {A : Option Addr} {cs : List Value} (h : CF W A cs) (hb : Below W.heap.size W W') : CF W' A cs := fun hn => by
  obtain ⟨b, off, e, hl, hc⟩ := h hn
  exact ⟨b, off, e, Nat.lt_of_lt_of_le hl hb.size, fun i hi => (hb.cell (p := ⟨b, _, none⟩) hl).trans (hc i hi)⟩
/-- Rows of three numbers each. -/
def flat3 (l : List (List Int)) : List Value := l.flatMap fun p => [.int .i64 (p.getD 0 0), .int .i64 (p.getD 1 0), .int .i64 (p.getD 2 0)]
theorem flat3_len : ∀ l : List (List Int), (flat3 l).length = l.length * 3
  | [] => rfl
  | p :: l => by
    have := flat3_len l
    unfold flat3 at *
    simp only [List.flatMap_cons, List.length_append, List.length_cons, List.length_nil, this]
    omega
theorem flat3_get : ∀ (l : List (List Int)) (i : Nat), i < l.length → (flat3 l)[i * 3]? = some (.int .i64 ((l.getD i []).getD 0 0)) ∧ (flat3 l)[i * 3 + 1]? = some (.int .i64 ((l.getD i []).getD 1 0)) ∧ (flat3 l)[i * 3 + 2]? = some (.int .i64 ((l.getD i []).getD 2 0))
  | [], i, h => by simp at h
  | p :: l, 0, _ => by unfold flat3; simp
  | p :: l, i + 1, h => by
    have k := flat3_get l i (by simpa using h)
    have e : ∀ j, j < 3 → (flat3 (p :: l))[(i + 1) * 3 + j]? = (flat3 l)[i * 3 + j]? := fun j hj => by
      unfold flat3
      rw [List.flatMap_cons, List.getElem?_append_right (by simp; omega)]
      simp only [List.length_cons, List.length_nil]
      congr 1
      omega
    have e0 := e 0 (by omega)
    have e1 := e 1 (by omega)
    have e2 := e 2 (by omega)
    simp only [Nat.add_zero] at e0
    rw [e0, e1, e2]
    simpa using k
set_option maxHeartbeats 1000000 in
theorem sameInts_yes (w : World) (A B : Option Addr) (n c d : Nat) (ns : List Int) (hn : ns.length = n) (hA : IF w A ns) (hB : IF w B ns) (hs : n ≤ 1048576) :
    Calls Tryz.prog 21 #[.slice A n c, .slice B n d] w fun e w' => e = .returned (.bool true) ∧ ∃ x, w' = grow w x := by
  go_enter Tryz.func21, Tryz.ntmps21
  go_wp2
  go_loopw [5] (fun i wr => ∃ k : Nat, i = .int .i64 (k : Int) ∧ k ≤ n ∧ ∃ x, wr = grow w x) (fun i _ => n - (intOf i).toNat)
  case atStart => exact ⟨0, rfl, by omega, grow_of (Below.refl _ _)⟩
  case round =>
    obtain ⟨k, rfl, hk, xx, rfl⟩ := hrel
    by_cases hlt : k < n
    · obtain ⟨b, off, rfl, hb, hc⟩ := hA (by omega)
      obtain ⟨b2, off2, rfl, hb2, hc2⟩ := hB (by omega)
      have c1 := hc k (by omega)
      have c2 := hc2 k (by omega)
      have k0 : (0 : Int) ≤ (k : Int) := by omega
      have k1 : (k : Int) < (n : Int) := by omega
      generalize ns.getD k 0 = x at *
      clear hc hc2 hA hB
      go_wp2_with fail
      refine wp_region_grow (by kernel_rfl) (by kernel_rfl) ?_
      repeat (go_big_quiet_step ((fail)))
      refine wpQuiet_nil ?_
      rintro _ ⟨xg, rfl⟩
      go_wp2_with fail
      go_roundw
      case rel => exact ⟨k + 1, by go_num, by omega, grow_of (by repeat (first | with_reducible exact Below.refl _ _ | with_reducible refine bel_then ?_ _ | with_reducible refine bel_grow ?_ _ | with_reducible refine bel_alloc ?_ _ | with_reducible refine bel_drew ?_ | with_reducible refine bel_set ?_ (by simp) _ | with_reducible refine bel_setRow ?_ (by first | omega | (simp; done)) _))⟩
      case measure => simp [intOf] <;> omega
    · obtain rfl : k = n := by omega
      go_wp2
      go_ret
      exact ⟨rfl, grow_of (by repeat (first | with_reducible exact Below.refl _ _ | with_reducible refine bel_then ?_ _ | with_reducible refine bel_grow ?_ _ | with_reducible refine bel_alloc ?_ _ | with_reducible refine bel_drew ?_ | with_reducible refine bel_set ?_ (by simp) _ | with_reducible refine bel_setRow ?_ (by first | omega | (simp; done)) _))⟩
/-- A cage's rows read so. -/
structure CageR (W : World) (va vf vc : Value) (c : CageM) : Prop where
  verts : ∃ A k, va = .slice A c.verts.length k ∧ CF W A (flat3 c.verts) ∧ c.verts.length ≤ 65536
  faces : ∃ A k fs, vf = .slice A c.faces.length k ∧ CF W A fs ∧ fs.length = c.faces.length ∧ c.faces.length ≤ 65536 ∧ ∀ i, i < c.faces.length → ∃ B m, fs[i]? = some (.slice B (c.faces.getD i []).length m) ∧ IF W B (c.faces.getD i []) ∧ (c.faces.getD i []).length ≤ 65536
  creases : ∃ A k, vc = .slice A c.creases.length k ∧ CF W A (flat3 c.creases) ∧ c.creases.length ≤ 65536
theorem CageR.below {W W' : World} {va vf vc : Value} {c : CageM} (h : CageR W va vf vc c) (hb : Below W.heap.size W W') : CageR W' va vf vc c := by
  refine ⟨?_, ?_, ?_⟩
  · obtain ⟨A, k, e, h1, h2⟩ := h.verts
    exact ⟨A, k, e, h1.below hb, h2⟩
  · obtain ⟨A, k, fs, e, h1, h2, h3, h4⟩ := h.faces
    exact ⟨A, k, fs, e, h1.below hb, h2, h3, fun i hi => by
      obtain ⟨B, m, e1, e2, e3⟩ := h4 i hi
      exact ⟨B, m, e1, e2.below hb, e3⟩⟩
  · obtain ⟨A, k, e, h1, h2⟩ := h.creases
    exact ⟨A, k, e, h1.below hb, h2⟩
end Go.Proofs.YtdkgbdecmgligaaGreatDoor

/- Cages that are the same. -/
namespace Go.Proofs.YtdkgbdecmgligaaGreatDoor
open Go.RowKit
set_option linter.unusedVariables false
set_option linter.unusedSimpArgs false
set_option maxRecDepth 100000 in
set_option maxHeartbeats 4000000 in
theorem sameCage_yes (w : World) (va vf vc vx vy vz : Value) (c : CageM) (hA : CageR w va vf vc c) (hB : CageR w vx vy vz c) :
    Calls Tryz.prog 22 #[.agg #[va, vf, vc], .agg #[vx, vy, vz]] w fun e w' => e = .returned (.bool true) ∧ ∃ x, w' = grow w x := by
  have hW : Below w.heap.size w ((w.alloc (.cells #[va, vf, vc] 48)).alloc (.cells #[vx, vy, vz] 48)) := bel_alloc (bel_alloc (Below.refl _ _) _) _
  have hA2 := hA.below hW
  have hB2 := hB.below hW
  obtain ⟨A1, a1, rfl, CV, l1⟩ := hA2.verts
  obtain ⟨A2, a2, fs, rfl, CFa, hfl, l2, hfs⟩ := hA2.faces
  obtain ⟨A3, a3, rfl, CC, l3⟩ := hA2.creases
  obtain ⟨X1, x1, rfl, DV, _⟩ := hB2.verts
  obtain ⟨X2, x2, gs, rfl, DFa, hgl, _, hgs⟩ := hB2.faces
  obtain ⟨X3, x3, rfl, DC, _⟩ := hB2.creases
  clear hA hB hA2 hB2
  obtain ⟨W2, hW2⟩ : ∃ W2, W2 = (w.alloc (.cells #[.slice A1 c.verts.length a1, .slice A2 c.faces.length a2, .slice A3 c.creases.length a3] 48)).alloc (.cells #[.slice X1 c.verts.length x1, .slice X2 c.faces.length x2, .slice X3 c.creases.length x3] 48) := ⟨_, rfl⟩
  obtain ⟨g1, hg1⟩ : ∃ g1, g1 = w.heap.size := ⟨_, rfl⟩
  have F1 : Blk W2 g1 48 #[.slice A1 c.verts.length a1, .slice A2 c.faces.length a2, .slice A3 c.creases.length a3] := by
    rw [hW2, hg1]
    exact (Blk.new _ _ _ _ rfl).alloc _
  have F2 : Blk W2 (g1 + 1) 48 #[.slice X1 c.verts.length x1, .slice X2 c.faces.length x2, .slice X3 c.creases.length x3] := by
    rw [hW2, hg1]
    exact Blk.new _ _ _ _ (by simp)
  rw [← hW2] at hW CV CFa CC DV DFa DC
  simp only [← hW2] at hfs hgs
  have f0 := F1.cell 0
  have f1 := F1.cell 1
  have f2 := F1.cell 2
  have f3 := F2.cell 0
  have f4 := F2.cell 1
  have f5 := F2.cell 2
  simp at f0 f1 f2 f3 f4 f5
  have fl1 := F1.lt
  have fl2 := F2.lt
  have PK := Lib.hid (And.intro CV (And.intro CFa (And.intro CC (And.intro DV (And.intro DFa (And.intro DC (And.intro hfs (And.intro hgs hW))))))))
  clear CV CFa CC DV DFa DC hfs hgs hW F1 F2
  go_enter Tryz.func22, Tryz.ntmps22
  go_wp2
  rw [← hW2, ← hg1]
  obtain ⟨CV, CFa, CC, DV, DFa, DC, hfs, hgs, hW⟩ := PK.out
  clear PK hW2 hg1
  go_loopw [5] (fun i wr => ∃ k : Nat, i = .int .i64 (k : Int) ∧ k ≤ c.verts.length ∧ ∃ x, wr = grow W2 x) (fun i _ => c.verts.length - (intOf i).toNat)
  case atStart => exact ⟨0, rfl, by omega, grow_of (by repeat (first | with_reducible exact Below.refl _ _ | with_reducible refine bel_then ?_ _ | with_reducible refine bel_grow ?_ _ | with_reducible refine bel_alloc ?_ _ | with_reducible refine bel_drew ?_ | with_reducible refine bel_set ?_ (by simp) _ | with_reducible refine bel_setRow ?_ (by first | omega | (simp; done)) _))⟩
  case round =>
    obtain ⟨k, rfl, hk, xx, rfl⟩ := hrel
    by_cases hlt : k < c.verts.length
    · obtain ⟨b, off, rfl, hb, hc⟩ := CV (by rw [flat3_len]; omega)
      obtain ⟨b2, off2, rfl, hb2, hc2⟩ := DV (by rw [flat3_len]; omega)
      obtain ⟨q0, q1, q2⟩ := flat3_get c.verts k (by omega)
      have c0 := hc (k * 3) (by rw [flat3_len]; omega)
      have c1 := hc (k * 3 + 1) (by rw [flat3_len]; omega)
      have c2 := hc (k * 3 + 2) (by rw [flat3_len]; omega)
      have d0 := hc2 (k * 3) (by rw [flat3_len]; omega)
      have d1 := hc2 (k * 3 + 1) (by rw [flat3_len]; omega)
      have d2 := hc2 (k * 3 + 2) (by rw [flat3_len]; omega)
      rw [q0] at c0 d0
      rw [q1, ← Nat.add_assoc] at c1 d1
      rw [q2, ← Nat.add_assoc] at c2 d2
      generalize (c.verts.getD k []).getD 0 0 = p0 at *
      generalize (c.verts.getD k []).getD 1 0 = p1 at *
      generalize (c.verts.getD k []).getD 2 0 = p2 at *
      have e : ∀ w : World, (binOp .neq 23 (.agg #[.int .i64 p0, .int .i64 p1, .int .i64 p2]) (.agg #[.int .i64 p0, .int .i64 p1, .int .i64 p2])).run Tryz.prog w = .ok (.bool false) w := by
        intro w; go_simp
      clear hc hc2 q0 q1 q2
      have k0 : (0 : Int) ≤ (k : Int) := by omega
      have k1 : (k : Int) < (c.verts.length : Int) := by omega
      go_wp2_with fail
      refine wp_region_grow (by kernel_rfl) (by kernel_rfl) ?_
      repeat (go_big_quiet_step ((fail)))
      refine wpQuiet_nil ?_
      rintro _ ⟨xg, rfl⟩
      go_wp2_with fail
      go_roundw
      case rel => exact ⟨k + 1, by go_num, by omega, grow_of (by repeat (first | with_reducible exact Below.refl _ _ | with_reducible refine bel_then ?_ _ | with_reducible refine bel_grow ?_ _ | with_reducible refine bel_alloc ?_ _ | with_reducible refine bel_drew ?_ | with_reducible refine bel_set ?_ (by simp) _ | with_reducible refine bel_setRow ?_ (by first | omega | (simp; done)) _))⟩
      case measure => simp [intOf] <;> omega
    · obtain rfl : k = c.verts.length := by omega
      go_wp2
      go_loopw [6] (fun i wr => ∃ k : Nat, i = .int .i64 (k : Int) ∧ k ≤ c.faces.length ∧ ∃ x, wr = grow W2 x) (fun i _ => c.faces.length - (intOf i).toNat)
      case atStart => exact ⟨0, rfl, by omega, grow_of (by repeat (first | with_reducible exact Below.refl _ _ | with_reducible refine bel_then ?_ _ | with_reducible refine bel_grow ?_ _ | with_reducible refine bel_alloc ?_ _ | with_reducible refine bel_drew ?_ | with_reducible refine bel_set ?_ (by simp) _ | with_reducible refine bel_setRow ?_ (by first | omega | (simp; done)) _))⟩
      case round =>
        obtain ⟨k, rfl, hk, xx, rfl⟩ := hrel
        by_cases hlt : k < c.faces.length
        · obtain ⟨b, off, rfl, hb, hc⟩ := CFa (by omega)
          obtain ⟨b2, off2, rfl, hb2, hc2⟩ := DFa (by omega)
          obtain ⟨B, m, q0, r0, s0⟩ := hfs k (by omega)
          obtain ⟨B2, m2, q1, r1, s1⟩ := hgs k (by omega)
          have c0 := hc k (by omega)
          have d0 := hc2 k (by omega)
          rw [q0] at c0
          rw [q1] at d0
          have CT : ∀ x : More, Calls Tryz.prog 21 #[.slice B (c.faces.getD k []).length m, .slice B2 (c.faces.getD k []).length m2] (grow W2 x) fun e w'' => e = .returned (.bool true) ∧ ∃ z, w'' = grow (grow W2 x) z := fun x => sameInts_yes _ B B2 _ m m2 _ rfl (r0.below (bel_grow (Below.refl _ _) x)) (r1.below (bel_grow (Below.refl _ _) x)) (by omega)
          generalize (c.faces.getD k []).length = ln at *
          replace CT := Lib.hid CT
          clear hc hc2 q0 q1 r0 r1 hfs hgs CFa DFa
          have k0 : (0 : Int) ≤ (k : Int) := by omega
          have k1 : (k : Int) < (c.faces.length : Int) := by omega
          go_wp2_with fail
          refine wp_region_grow (by kernel_rfl) (by kernel_rfl) ?_
          repeat (go_big_quiet_step (((first | exact qq1 (CT.out _) | exact qq2 (CT.out _)))))
          refine wpQuiet_nil ?_
          rintro _ ⟨xg, rfl⟩
          go_wp2_with fail
          go_roundw
          case rel => exact ⟨k + 1, by go_num, by omega, grow_of (by repeat (first | with_reducible exact Below.refl _ _ | with_reducible refine bel_then ?_ _ | with_reducible refine bel_grow ?_ _ | with_reducible refine bel_alloc ?_ _ | with_reducible refine bel_drew ?_ | with_reducible refine bel_set ?_ (by simp) _ | with_reducible refine bel_setRow ?_ (by first | omega | (simp; done)) _))⟩
          case measure => simp [intOf] <;> omega
        · obtain rfl : k = c.faces.length := by omega
          go_wp2
          go_loopw [7] (fun i wr => ∃ k : Nat, i = .int .i64 (k : Int) ∧ k ≤ c.creases.length ∧ ∃ x, wr = grow W2 x) (fun i _ => c.creases.length - (intOf i).toNat)
          case atStart => exact ⟨0, rfl, by omega, grow_of (by repeat (first | with_reducible exact Below.refl _ _ | with_reducible refine bel_then ?_ _ | with_reducible refine bel_grow ?_ _ | with_reducible refine bel_alloc ?_ _ | with_reducible refine bel_drew ?_ | with_reducible refine bel_set ?_ (by simp) _ | with_reducible refine bel_setRow ?_ (by first | omega | (simp; done)) _))⟩
          case round =>
            obtain ⟨k, rfl, hk, xx, rfl⟩ := hrel
            by_cases hlt : k < c.creases.length
            · obtain ⟨b, off, rfl, hb, hc⟩ := CC (by rw [flat3_len]; omega)
              obtain ⟨b2, off2, rfl, hb2, hc2⟩ := DC (by rw [flat3_len]; omega)
              obtain ⟨q0, q1, q2⟩ := flat3_get c.creases k (by omega)
              have c0 := hc (k * 3) (by rw [flat3_len]; omega)
              have c1 := hc (k * 3 + 1) (by rw [flat3_len]; omega)
              have c2 := hc (k * 3 + 2) (by rw [flat3_len]; omega)
              have d0 := hc2 (k * 3) (by rw [flat3_len]; omega)
              have d1 := hc2 (k * 3 + 1) (by rw [flat3_len]; omega)
              have d2 := hc2 (k * 3 + 2) (by rw [flat3_len]; omega)
              rw [q0] at c0 d0
              rw [q1, ← Nat.add_assoc] at c1 d1
              rw [q2, ← Nat.add_assoc] at c2 d2
              generalize (c.creases.getD k []).getD 0 0 = p0 at *
              generalize (c.creases.getD k []).getD 1 0 = p1 at *
              generalize (c.creases.getD k []).getD 2 0 = p2 at *
              have e : ∀ w : World, (binOp .neq 98 (.agg #[.int .i64 p0, .int .i64 p1, .int .i64 p2]) (.agg #[.int .i64 p0, .int .i64 p1, .int .i64 p2])).run Tryz.prog w = .ok (.bool false) w := by
                intro w; go_simp
              clear hc hc2 q0 q1 q2
              have k0 : (0 : Int) ≤ (k : Int) := by omega
              have k1 : (k : Int) < (c.creases.length : Int) := by omega
              go_wp2_with fail
              refine wp_region_grow (by kernel_rfl) (by kernel_rfl) ?_
              repeat (go_big_quiet_step ((fail)))
              refine wpQuiet_nil ?_
              rintro _ ⟨xg, rfl⟩
              go_wp2_with fail
              go_roundw
              case rel => exact ⟨k + 1, by go_num, by omega, grow_of (by repeat (first | with_reducible exact Below.refl _ _ | with_reducible refine bel_then ?_ _ | with_reducible refine bel_grow ?_ _ | with_reducible refine bel_alloc ?_ _ | with_reducible refine bel_drew ?_ | with_reducible refine bel_set ?_ (by simp) _ | with_reducible refine bel_setRow ?_ (by first | omega | (simp; done)) _))⟩
              case measure => simp [intOf] <;> omega
            · obtain rfl : k = c.creases.length := by omega
              go_wp2
              go_ret
              exact ⟨rfl, grow_of (hW.trans ((bel_grow (Below.refl _ _) xx).mono hW.size))⟩
end Go.Proofs.YtdkgbdecmgligaaGreatDoor
