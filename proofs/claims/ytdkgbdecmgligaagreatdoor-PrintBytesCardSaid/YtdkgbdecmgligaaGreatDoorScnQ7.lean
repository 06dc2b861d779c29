/- The program's own scene: where a name stands. -/
import Derived.Test.YtdkgbdecmgligaaGreatDoorMScnQA
import Derived.Test.YtdkgbdecmgligaaGreatDoorMScnS
namespace Go.Proofs.YtdkgbdecmgligaaGreatDoor
open Go.RowKit
set_option linter.unusedVariables false
set_option linter.unusedSimpArgs false
set_option linter.unnecessarySimpa false

/-- Things stand in a row, each with its name first. -/
def EFtex (W : World) (A : Option Addr) (l : List Wd) : Prop := 0 < l.length → ∃ b off, A = some ⟨b, off, none⟩ ∧ b < W.heap.size ∧ ∀ i, i < l.length → W.cell? ⟨b, off + i * 4, none⟩ = some (.string ⟨(l.getD i []).toArray⟩) ∧ ∃ (y1 y2 : Int) (A3 : Option Addr) (n3 c3 : Nat), W.cell? ⟨b, off + i * 4 + 1, none⟩ = some (.int .i64 y1) ∧ W.cell? ⟨b, off + i * 4 + 2, none⟩ = some (.int .i64 y2) ∧ W.cell? ⟨b, off + i * 4 + 3, none⟩ = some (.slice A3 n3 c3)
theorem EFtex.below {W W' : World} {A : Option Addr} {l : List Wd} (h : EFtex W A l) (hb : Below W.heap.size W W') : EFtex W' A l := fun hn => by
  obtain ⟨b, off, e, hl, hc⟩ := h hn
  refine ⟨b, off, e, Nat.lt_of_lt_of_le hl hb.size, fun i hi => ?_⟩
  obtain ⟨h0, y1, y2, A3, n3, c3, h1, h2, h3⟩ := hc i hi
  exact ⟨(hb.cell (p := ⟨b, _, none⟩) hl).trans h0, y1, y2, A3, n3, c3, (hb.cell (p := ⟨b, _, none⟩) hl).trans h1, (hb.cell (p := ⟨b, _, none⟩) hl).trans h2, (hb.cell (p := ⟨b, _, none⟩) hl).trans h3⟩
set_option maxHeartbeats 2000000 in
theorem tex_is (w : World) (k : Nat) (a name : Wd) (y1 y2 : Int) (A3 : Option Addr) (n3 c3 : Nat) (hk : w.cell? ⟨k, 0, none⟩ = some (.string ⟨name.toArray⟩)) (hkl : k < w.heap.size) (r : Bool) (hr : decide (a = name) = r) :
    Calls Tryz.prog 130 #[.agg #[.string ⟨a.toArray⟩, .int .i64 y1, .int .i64 y2, .slice A3 n3 c3], .pointer (some ⟨k, 0, none⟩)] w fun e w' => e = .returned (.bool r) ∧ ∃ x, w' = grow w x := by
  have EQ := eqW a name
  have EQ2 : (a == name) = r := by rw [← hr]; by_cases q : a = name <;> simp [q]
  rw [hr] at EQ
  clear hr
  go_enter Tryz.func130, Tryz.ntmps130
  go_wp2
  go_ret
  exact ⟨rfl, grow_of (by repeat (first | with_reducible exact Below.refl _ _ | with_reducible refine bel_then ?_ _ | with_reducible refine bel_grow ?_ _ | with_reducible refine bel_alloc ?_ _ | with_reducible refine bel_drew ?_ | with_reducible refine bel_set ?_ (by simp) _ | with_reducible refine bel_setRow ?_ (by first | omega | (simp; done)) _))⟩
set_option maxRecDepth 100000 in
set_option maxHeartbeats 2000000 in
theorem tex_idx (w : World) (A : Option Addr) (n c k : Nat) (l : List Wd) (name : Wd) (hn : l.length = n) (hn2 : n ≤ 1048576) (hN : EFtex w A l) (hk : w.cell? ⟨k, 0, none⟩ = some (.string ⟨name.toArray⟩)) (hkl : k < w.heap.size) (r : Int) (hr : placeI name l = r) :
    Calls Tryz.prog 129 #[.slice A n c, .func (Fn.func 130) #[] #[.pointer (some ⟨k, 0, none⟩)]] w fun e w' => e = .returned (.int .i64 r) ∧ ∃ x, w' = grow w x := by
  have HR := Lib.hid hr
  clear hr
  have HN := Lib.hid hN
  clear hN
  go_enter Tryz.func129, Tryz.ntmps129
  go_wp2
  go_loopw [8] (fun i wr => ∃ j : Nat, i = .int .i64 (j : Int) ∧ j ≤ n ∧ Hid (∀ i, i < j → l.getD i [] ≠ name) ∧ ∃ x, wr = grow w x) (fun i _ => n - (intOf i).toNat)
  case atStart => exact ⟨0, rfl, by omega, Lib.hid (fun j h => by omega), grow_of (Below.refl _ _)⟩
  case round =>
    obtain ⟨j, rfl, hj, hall, xx, rfl⟩ := hrel
    by_cases hlt : j < n
    · obtain ⟨b, off, rfl, hbl, hcell⟩ := HN.out (by omega)
      obtain ⟨h0, y1, y2, A3, n3, c3, h1, h2, h3⟩ := hcell j (by omega)
      have j0 : (0 : Int) ≤ (j : Int) := by omega
      have j1 : (j : Int) < (n : Int) := by omega
      have ON := Lib.hid (show l.getD j [] = name → (j : Int) = r from fun q => by
        rw [← HR.out]; unfold placeI; rw [place_some name l j (by omega) q hall.out])
      have OFF := Lib.hid (show l.getD j [] ≠ name → ∀ i, i < j + 1 → l.getD i [] ≠ name from fun q i hi => by
        by_cases e : i = j
        · subst e; exact q
        · exact hall.out i (by omega))
      generalize l.getD j [] = a at *
      clear hcell
      have CT := fun (x : More) (r : Bool) (hr : decide (a = name) = r) => tex_is (grow w x) k a name y1 y2 A3 n3 c3 ((grow_cell w x k 0).trans (by rw [if_pos hkl]; exact hk)) (Nat.lt_of_lt_of_le hkl (top_le w x)) r hr
      by_cases q : a = name
      · have CQ := Lib.hid (fun x => CT x true (decide_eq_true q))
        have HF := Lib.hid (ON.out q)
        clear ON OFF q CT
        go_wp2_with (go_at_call 130; (refine (CQ.out _).mono ?_); rintro e _ ⟨rfl, x9, rfl⟩)
        go_ret
        exact ⟨by rw [← HF.out]; rfl, grow_of (by repeat (first | with_reducible exact Below.refl _ _ | with_reducible refine bel_then ?_ _ | with_reducible refine bel_grow ?_ _ | with_reducible refine bel_alloc ?_ _ | with_reducible refine bel_drew ?_ | with_reducible refine bel_set ?_ (by simp) _ | with_reducible refine bel_setRow ?_ (by first | omega | (simp; done)) _))⟩
      · have CQ := Lib.hid (fun x => CT x false (decide_eq_false q))
        have HF := Lib.hid (OFF.out q)
        clear ON OFF q CT
        go_wp2_with (go_at_call 130; (refine (CQ.out _).mono ?_); rintro e _ ⟨rfl, x9, rfl⟩)
        go_roundw
        case rel => exact ⟨j + 1, by go_num, by omega, HF, grow_of (by repeat (first | with_reducible exact Below.refl _ _ | with_reducible refine bel_then ?_ _ | with_reducible refine bel_grow ?_ _ | with_reducible refine bel_alloc ?_ _ | with_reducible refine bel_drew ?_ | with_reducible refine bel_set ?_ (by simp) _ | with_reducible refine bel_setRow ?_ (by first | omega | (simp; done)) _))⟩
        case measure => simp [intOf] <;> omega
    · obtain rfl : j = n := by omega
      have HF := Lib.hid (show r = -1 by
        rw [← HR.out]; unfold placeI; rw [place_none name l (fun j h => hall.out j (by omega))])
      go_wp2
      go_ret
      exact ⟨by rw [HF.out]; rfl, grow_of (by repeat (first | with_reducible exact Below.refl _ _ | with_reducible refine bel_then ?_ _ | with_reducible refine bel_grow ?_ _ | with_reducible refine bel_alloc ?_ _ | with_reducible refine bel_drew ?_ | with_reducible refine bel_set ?_ (by simp) _ | with_reducible refine bel_setRow ?_ (by first | omega | (simp; done)) _))⟩
set_option maxRecDepth 100000 in
set_option maxHeartbeats 2000000 in
theorem tex_named (w : World) (g : Nat) (A : Option Addr) (n c : Nat) (l : List Wd) (name : Wd) (hn : l.length = n) (hn2 : n ≤ 1048576) (hN : EFtex w A l) (hc : w.cell? ⟨g, 21, none⟩ = some (.slice A n c)) :
    Calls Tryz.prog 114 #[.pointer (some ⟨g, 0, none⟩), .string ⟨name.toArray⟩] w fun e w' => e = .returned (.int .i64 (placeI name l)) ∧ ∃ x, w' = grow w x := by
  have hmf : ∀ (fn : Fn) (first cap : Array Value) (w : World), (Instr.makeFunc fn first cap).run Tryz.prog w = .ok (.func fn first cap) w := fun _ _ _ _ => rfl
  have hgl : g < w.heap.size := World.block_lt_of_cell? w ⟨g, 21, none⟩ hc
  have HB : Below w.heap.size w (w.alloc (.cells #[.string ⟨name.toArray⟩] 9)) := bel_alloc (Below.refl _ _) _
  have hk : (w.alloc (.cells #[.string ⟨name.toArray⟩] 9)).cell? ⟨w.heap.size, 0, none⟩ = some (.string ⟨name.toArray⟩) := by
    have h := Blk.cell (Blk.new w 9 #[.string ⟨name.toArray⟩] w.heap.size rfl) 0
    simpa using h
  have CT := Lib.hid (tex_idx (w.alloc (.cells #[.string ⟨name.toArray⟩] 9)) A n c w.heap.size l name hn hn2 (hN.below HB) hk (by simp) _ rfl)
  clear hk HB hN
  go_enter Tryz.func114, Tryz.ntmps114
  go_wp2_with (go_at_call 129; (refine CT.out.mono ?_); rintro e _ ⟨rfl, x9, rfl⟩)
  go_ret
  exact ⟨rfl, grow_of (by repeat (first | with_reducible exact Below.refl _ _ | with_reducible refine bel_then ?_ _ | with_reducible refine bel_grow ?_ _ | with_reducible refine bel_alloc ?_ _ | with_reducible refine bel_drew ?_ | with_reducible refine bel_set ?_ (by simp) _ | with_reducible refine bel_setRow ?_ (by first | omega | (simp; done)) _))⟩

/-- Things stand in a row, each with its name first. -/
def EFmat (W : World) (A : Option Addr) (l : List Wd) : Prop := 0 < l.length → ∃ b off, A = some ⟨b, off, none⟩ ∧ b < W.heap.size ∧ ∀ i, i < l.length → W.cell? ⟨b, off + i * 9, none⟩ = some (.string ⟨(l.getD i []).toArray⟩) ∧ ∃ (y1 y2 y3 y4 y5 y6 y7 y8 : Int), W.cell? ⟨b, off + i * 9 + 1, none⟩ = some (.int .i64 y1) ∧ W.cell? ⟨b, off + i * 9 + 2, none⟩ = some (.int .i64 y2) ∧ W.cell? ⟨b, off + i * 9 + 3, none⟩ = some (.int .i64 y3) ∧ W.cell? ⟨b, off + i * 9 + 4, none⟩ = some (.int .i64 y4) ∧ W.cell? ⟨b, off + i * 9 + 5, none⟩ = some (.int .i64 y5) ∧ W.cell? ⟨b, off + i * 9 + 6, none⟩ = some (.int .i64 y6) ∧ W.cell? ⟨b, off + i * 9 + 7, none⟩ = some (.int .i64 y7) ∧ W.cell? ⟨b, off + i * 9 + 8, none⟩ = some (.int .i64 y8)
theorem EFmat.below {W W' : World} {A : Option Addr} {l : List Wd} (h : EFmat W A l) (hb : Below W.heap.size W W') : EFmat W' A l := fun hn => by
  obtain ⟨b, off, e, hl, hc⟩ := h hn
  refine ⟨b, off, e, Nat.lt_of_lt_of_le hl hb.size, fun i hi => ?_⟩
  obtain ⟨h0, y1, y2, y3, y4, y5, y6, y7, y8, h1, h2, h3, h4, h5, h6, h7, h8⟩ := hc i hi
  exact ⟨(hb.cell (p := ⟨b, _, none⟩) hl).trans h0, y1, y2, y3, y4, y5, y6, y7, y8, (hb.cell (p := ⟨b, _, none⟩) hl).trans h1, (hb.cell (p := ⟨b, _, none⟩) hl).trans h2, (hb.cell (p := ⟨b, _, none⟩) hl).trans h3, (hb.cell (p := ⟨b, _, none⟩) hl).trans h4, (hb.cell (p := ⟨b, _, none⟩) hl).trans h5, (hb.cell (p := ⟨b, _, none⟩) hl).trans h6, (hb.cell (p := ⟨b, _, none⟩) hl).trans h7, (hb.cell (p := ⟨b, _, none⟩) hl).trans h8⟩
set_option maxHeartbeats 2000000 in
theorem mat_is (w : World) (k : Nat) (a name : Wd) (y1 y2 y3 y4 y5 y6 y7 y8 : Int) (hk : w.cell? ⟨k, 0, none⟩ = some (.string ⟨name.toArray⟩)) (hkl : k < w.heap.size) (r : Bool) (hr : decide (a = name) = r) :
    Calls Tryz.prog 132 #[.agg #[.string ⟨a.toArray⟩, .int .i64 y1, .int .i64 y2, .int .i64 y3, .int .i64 y4, .int .i64 y5, .int .i64 y6, .int .i64 y7, .int .i64 y8], .pointer (some ⟨k, 0, none⟩)] w fun e w' => e = .returned (.bool r) ∧ ∃ x, w' = grow w x := by
  have EQ := eqW a name
  have EQ2 : (a == name) = r := by rw [← hr]; by_cases q : a = name <;> simp [q]
  rw [hr] at EQ
  clear hr
  go_enter Tryz.func132, Tryz.ntmps132
  go_wp2
  go_ret
  exact ⟨rfl, grow_of (by repeat (first | with_reducible exact Below.refl _ _ | with_reducible refine bel_then ?_ _ | with_reducible refine bel_grow ?_ _ | with_reducible refine bel_alloc ?_ _ | with_reducible refine bel_drew ?_ | with_reducible refine bel_set ?_ (by simp) _ | with_reducible refine bel_setRow ?_ (by first | omega | (simp; done)) _))⟩
set_option maxRecDepth 100000 in
set_option maxHeartbeats 2000000 in
theorem mat_idx (w : World) (A : Option Addr) (n c k : Nat) (l : List Wd) (name : Wd) (hn : l.length = n) (hn2 : n ≤ 1048576) (hN : EFmat w A l) (hk : w.cell? ⟨k, 0, none⟩ = some (.string ⟨name.toArray⟩)) (hkl : k < w.heap.size) (r : Int) (hr : placeI name l = r) :
    Calls Tryz.prog 131 #[.slice A n c, .func (Fn.func 132) #[] #[.pointer (some ⟨k, 0, none⟩)]] w fun e w' => e = .returned (.int .i64 r) ∧ ∃ x, w' = grow w x := by
  have HR := Lib.hid hr
  clear hr
  have HN := Lib.hid hN
  clear hN
  go_enter Tryz.func131, Tryz.ntmps131
  go_wp2
  go_loopw [8] (fun i wr => ∃ j : Nat, i = .int .i64 (j : Int) ∧ j ≤ n ∧ Hid (∀ i, i < j → l.getD i [] ≠ name) ∧ ∃ x, wr = grow w x) (fun i _ => n - (intOf i).toNat)
  case atStart => exact ⟨0, rfl, by omega, Lib.hid (fun j h => by omega), grow_of (Below.refl _ _)⟩
  case round =>
    obtain ⟨j, rfl, hj, hall, xx, rfl⟩ := hrel
    by_cases hlt : j < n
    · obtain ⟨b, off, rfl, hbl, hcell⟩ := HN.out (by omega)
      obtain ⟨h0, y1, y2, y3, y4, y5, y6, y7, y8, h1, h2, h3, h4, h5, h6, h7, h8⟩ := hcell j (by omega)
      have j0 : (0 : Int) ≤ (j : Int) := by omega
      have j1 : (j : Int) < (n : Int) := by omega
      have ON := Lib.hid (show l.getD j [] = name → (j : Int) = r from fun q => by
        rw [← HR.out]; unfold placeI; rw [place_some name l j (by omega) q hall.out])
      have OFF := Lib.hid (show l.getD j [] ≠ name → ∀ i, i < j + 1 → l.getD i [] ≠ name from fun q i hi => by
        by_cases e : i = j
        · subst e; exact q
        · exact hall.out i (by omega))
      generalize l.getD j [] = a at *
      clear hcell
      have CT := fun (x : More) (r : Bool) (hr : decide (a = name) = r) => mat_is (grow w x) k a name y1 y2 y3 y4 y5 y6 y7 y8 ((grow_cell w x k 0).trans (by rw [if_pos hkl]; exact hk)) (Nat.lt_of_lt_of_le hkl (top_le w x)) r hr
      by_cases q : a = name
      · have CQ := Lib.hid (fun x => CT x true (decide_eq_true q))
        have HF := Lib.hid (ON.out q)
        clear ON OFF q CT
        go_wp2_with (go_at_call 132; (refine (CQ.out _).mono ?_); rintro e _ ⟨rfl, x9, rfl⟩)
        go_ret
        exact ⟨by rw [← HF.out]; rfl, grow_of (by repeat (first | with_reducible exact Below.refl _ _ | with_reducible refine bel_then ?_ _ | with_reducible refine bel_grow ?_ _ | with_reducible refine bel_alloc ?_ _ | with_reducible refine bel_drew ?_ | with_reducible refine bel_set ?_ (by simp) _ | with_reducible refine bel_setRow ?_ (by first | omega | (simp; done)) _))⟩
      · have CQ := Lib.hid (fun x => CT x false (decide_eq_false q))
        have HF := Lib.hid (OFF.out q)
        clear ON OFF q CT
        go_wp2_with (go_at_call 132; (refine (CQ.out _).mono ?_); rintro e _ ⟨rfl, x9, rfl⟩)
        go_roundw
        case rel => exact ⟨j + 1, by go_num, by omega, HF, grow_of (by repeat (first | with_reducible exact Below.refl _ _ | with_reducible refine bel_then ?_ _ | with_reducible refine bel_grow ?_ _ | with_reducible refine bel_alloc ?_ _ | with_reducible refine bel_drew ?_ | with_reducible refine bel_set ?_ (by simp) _ | with_reducible refine bel_setRow ?_ (by first | omega | (simp; done)) _))⟩
        case measure => simp [intOf] <;> omega
    · obtain rfl : j = n := by omega
      have HF := Lib.hid (show r = -1 by
        rw [← HR.out]; unfold placeI; rw [place_none name l (fun j h => hall.out j (by omega))])
      go_wp2
      go_ret
      exact ⟨by rw [HF.out]; rfl, grow_of (by repeat (first | with_reducible exact Below.refl _ _ | with_reducible refine bel_then ?_ _ | with_reducible refine bel_grow ?_ _ | with_reducible refine bel_alloc ?_ _ | with_reducible refine bel_drew ?_ | with_reducible refine bel_set ?_ (by simp) _ | with_reducible refine bel_setRow ?_ (by first | omega | (simp; done)) _))⟩
set_option maxRecDepth 100000 in
set_option maxHeartbeats 2000000 in
theorem mat_named (w : World) (g : Nat) (A : Option Addr) (n c : Nat) (l : List Wd) (name : Wd) (hn : l.length = n) (hn2 : n ≤ 1048576) (hN : EFmat w A l) (hc : w.cell? ⟨g, 20, none⟩ = some (.slice A n c)) :
    Calls Tryz.prog 115 #[.pointer (some ⟨g, 0, none⟩), .string ⟨name.toArray⟩] w fun e w' => e = .returned (.int .i64 (placeI name l)) ∧ ∃ x, w' = grow w x := by
  have hmf : ∀ (fn : Fn) (first cap : Array Value) (w : World), (Instr.makeFunc fn first cap).run Tryz.prog w = .ok (.func fn first cap) w := fun _ _ _ _ => rfl
  have hgl : g < w.heap.size := World.block_lt_of_cell? w ⟨g, 20, none⟩ hc
  have HB : Below w.heap.size w (w.alloc (.cells #[.string ⟨name.toArray⟩] 9)) := bel_alloc (Below.refl _ _) _
  have hk : (w.alloc (.cells #[.string ⟨name.toArray⟩] 9)).cell? ⟨w.heap.size, 0, none⟩ = some (.string ⟨name.toArray⟩) := by
    have h := Blk.cell (Blk.new w 9 #[.string ⟨name.toArray⟩] w.heap.size rfl) 0
    simpa using h
  have CT := Lib.hid (mat_idx (w.alloc (.cells #[.string ⟨name.toArray⟩] 9)) A n c w.heap.size l name hn hn2 (hN.below HB) hk (by simp) _ rfl)
  clear hk HB hN
  go_enter Tryz.func115, Tryz.ntmps115
  go_wp2_with (go_at_call 131; (refine CT.out.mono ?_); rintro e _ ⟨rfl, x9, rfl⟩)
  go_ret
  exact ⟨rfl, grow_of (by repeat (first | with_reducible exact Below.refl _ _ | with_reducible refine bel_then ?_ _ | with_reducible refine bel_grow ?_ _ | with_reducible refine bel_alloc ?_ _ | with_reducible refine bel_drew ?_ | with_reducible refine bel_set ?_ (by simp) _ | with_reducible refine bel_setRow ?_ (by first | omega | (simp; done)) _))⟩

/-- Things stand in a row, each with its name first. -/
def EFskin (W : World) (A : Option Addr) (l : List Wd) : Prop := 0 < l.length → ∃ b off, A = some ⟨b, off, none⟩ ∧ b < W.heap.size ∧ ∀ i, i < l.length → W.cell? ⟨b, off + i * 6, none⟩ = some (.string ⟨(l.getD i []).toArray⟩) ∧ ∃ (y1 y2 y3 y4 y5 : Int), W.cell? ⟨b, off + i * 6 + 1, none⟩ = some (.int .i64 y1) ∧ W.cell? ⟨b, off + i * 6 + 2, none⟩ = some (.int .i64 y2) ∧ W.cell? ⟨b, off + i * 6 + 3, none⟩ = some (.int .i64 y3) ∧ W.cell? ⟨b, off + i * 6 + 4, none⟩ = some (.int .i64 y4) ∧ W.cell? ⟨b, off + i * 6 + 5, none⟩ = some (.int .i64 y5)
theorem EFskin.below {W W' : World} {A : Option Addr} {l : List Wd} (h : EFskin W A l) (hb : Below W.heap.size W W') : EFskin W' A l := fun hn => by
  obtain ⟨b, off, e, hl, hc⟩ := h hn
  refine ⟨b, off, e, Nat.lt_of_lt_of_le hl hb.size, fun i hi => ?_⟩
  obtain ⟨h0, y1, y2, y3, y4, y5, h1, h2, h3, h4, h5⟩ := hc i hi
  exact ⟨(hb.cell (p := ⟨b, _, none⟩) hl).trans h0, y1, y2, y3, y4, y5, (hb.cell (p := ⟨b, _, none⟩) hl).trans h1, (hb.cell (p := ⟨b, _, none⟩) hl).trans h2, (hb.cell (p := ⟨b, _, none⟩) hl).trans h3, (hb.cell (p := ⟨b, _, none⟩) hl).trans h4, (hb.cell (p := ⟨b, _, none⟩) hl).trans h5⟩
set_option maxHeartbeats 2000000 in
theorem skin_is (w : World) (k : Nat) (a name : Wd) (y1 y2 y3 y4 y5 : Int) (hk : w.cell? ⟨k, 0, none⟩ = some (.string ⟨name.toArray⟩)) (hkl : k < w.heap.size) (r : Bool) (hr : decide (a = name) = r) :
    Calls Tryz.prog 133 #[.agg #[.string ⟨a.toArray⟩, .int .i64 y1, .int .i64 y2, .int .i64 y3, .int .i64 y4, .int .i64 y5], .pointer (some ⟨k, 0, none⟩)] w fun e w' => e = .returned (.bool r) ∧ ∃ x, w' = grow w x := by
  have EQ := eqW a name
  have EQ2 : (a == name) = r := by rw [← hr]; by_cases q : a = name <;> simp [q]
  rw [hr] at EQ
  clear hr
  go_enter Tryz.func133, Tryz.ntmps133
  go_wp2
  go_ret
  exact ⟨rfl, grow_of (by repeat (first | with_reducible exact Below.refl _ _ | with_reducible refine bel_then ?_ _ | with_reducible refine bel_grow ?_ _ | with_reducible refine bel_alloc ?_ _ | with_reducible refine bel_drew ?_ | with_reducible refine bel_set ?_ (by simp) _ | with_reducible refine bel_setRow ?_ (by first | omega | (simp; done)) _))⟩
set_option maxRecDepth 100000 in
set_option maxHeartbeats 2000000 in
theorem skin_idx (w : World) (A : Option Addr) (n c k : Nat) (l : List Wd) (name : Wd) (hn : l.length = n) (hn2 : n ≤ 1048576) (hN : EFskin w A l) (hk : w.cell? ⟨k, 0, none⟩ = some (.string ⟨name.toArray⟩)) (hkl : k < w.heap.size) (r : Int) (hr : placeI name l = r) :
    Calls Tryz.prog 57 #[.slice A n c, .func (Fn.func 133) #[] #[.pointer (some ⟨k, 0, none⟩)]] w fun e w' => e = .returned (.int .i64 r) ∧ ∃ x, w' = grow w x := by
  have HR := Lib.hid hr
  clear hr
  have HN := Lib.hid hN
  clear hN
  go_enter Tryz.func57, Tryz.ntmps57
  go_wp2
  go_loopw [8] (fun i wr => ∃ j : Nat, i = .int .i64 (j : Int) ∧ j ≤ n ∧ Hid (∀ i, i < j → l.getD i [] ≠ name) ∧ ∃ x, wr = grow w x) (fun i _ => n - (intOf i).toNat)
  case atStart => exact ⟨0, rfl, by omega, Lib.hid (fun j h => by omega), grow_of (Below.refl _ _)⟩
  case round =>
    obtain ⟨j, rfl, hj, hall, xx, rfl⟩ := hrel
    by_cases hlt : j < n
    · obtain ⟨b, off, rfl, hbl, hcell⟩ := HN.out (by omega)
      obtain ⟨h0, y1, y2, y3, y4, y5, h1, h2, h3, h4, h5⟩ := hcell j (by omega)
      have j0 : (0 : Int) ≤ (j : Int) := by omega
      have j1 : (j : Int) < (n : Int) := by omega
      have ON := Lib.hid (show l.getD j [] = name → (j : Int) = r from fun q => by
        rw [← HR.out]; unfold placeI; rw [place_some name l j (by omega) q hall.out])
      have OFF := Lib.hid (show l.getD j [] ≠ name → ∀ i, i < j + 1 → l.getD i [] ≠ name from fun q i hi => by
        by_cases e : i = j
        · subst e; exact q
        · exact hall.out i (by omega))
      generalize l.getD j [] = a at *
      clear hcell
      have CT := fun (x : More) (r : Bool) (hr : decide (a = name) = r) => skin_is (grow w x) k a name y1 y2 y3 y4 y5 ((grow_cell w x k 0).trans (by rw [if_pos hkl]; exact hk)) (Nat.lt_of_lt_of_le hkl (top_le w x)) r hr
      by_cases q : a = name
      · have CQ := Lib.hid (fun x => CT x true (decide_eq_true q))
        have HF := Lib.hid (ON.out q)
        clear ON OFF q CT
        go_wp2_with (go_at_call 133; (refine (CQ.out _).mono ?_); rintro e _ ⟨rfl, x9, rfl⟩)
        go_ret
        exact ⟨by rw [← HF.out]; rfl, grow_of (by repeat (first | with_reducible exact Below.refl _ _ | with_reducible refine bel_then ?_ _ | with_reducible refine bel_grow ?_ _ | with_reducible refine bel_alloc ?_ _ | with_reducible refine bel_drew ?_ | with_reducible refine bel_set ?_ (by simp) _ | with_reducible refine bel_setRow ?_ (by first | omega | (simp; done)) _))⟩
      · have CQ := Lib.hid (fun x => CT x false (decide_eq_false q))
        have HF := Lib.hid (OFF.out q)
        clear ON OFF q CT
        go_wp2_with (go_at_call 133; (refine (CQ.out _).mono ?_); rintro e _ ⟨rfl, x9, rfl⟩)
        go_roundw
        case rel => exact ⟨j + 1, by go_num, by omega, HF, grow_of (by repeat (first | with_reducible exact Below.refl _ _ | with_reducible refine bel_then ?_ _ | with_reducible refine bel_grow ?_ _ | with_reducible refine bel_alloc ?_ _ | with_reducible refine bel_drew ?_ | with_reducible refine bel_set ?_ (by simp) _ | with_reducible refine bel_setRow ?_ (by first | omega | (simp; done)) _))⟩
        case measure => simp [intOf] <;> omega
    · obtain rfl : j = n := by omega
      have HF := Lib.hid (show r = -1 by
        rw [← HR.out]; unfold placeI; rw [place_none name l (fun j h => hall.out j (by omega))])
      go_wp2
      go_ret
      exact ⟨by rw [HF.out]; rfl, grow_of (by repeat (first | with_reducible exact Below.refl _ _ | with_reducible refine bel_then ?_ _ | with_reducible refine bel_grow ?_ _ | with_reducible refine bel_alloc ?_ _ | with_reducible refine bel_drew ?_ | with_reducible refine bel_set ?_ (by simp) _ | with_reducible refine bel_setRow ?_ (by first | omega | (simp; done)) _))⟩
set_option maxRecDepth 100000 in
set_option maxHeartbeats 2000000 in
theorem skin_named (w : World) (g : Nat) (A : Option Addr) (n c : Nat) (l : List Wd) (name : Wd) (hn : l.length = n) (hn2 : n ≤ 1048576) (hN : EFskin w A l) (hc : w.cell? ⟨g, 22, none⟩ = some (.slice A n c)) :
    Calls Tryz.prog 116 #[.pointer (some ⟨g, 0, none⟩), .string ⟨name.toArray⟩] w fun e w' => e = .returned (.int .i64 (placeI name l)) ∧ ∃ x, w' = grow w x := by
  have hmf : ∀ (fn : Fn) (first cap : Array Value) (w : World), (Instr.makeFunc fn first cap).run Tryz.prog w = .ok (.func fn first cap) w := fun _ _ _ _ => rfl
  have hgl : g < w.heap.size := World.block_lt_of_cell? w ⟨g, 22, none⟩ hc
  have HB : Below w.heap.size w (w.alloc (.cells #[.string ⟨name.toArray⟩] 9)) := bel_alloc (Below.refl _ _) _
  have hk : (w.alloc (.cells #[.string ⟨name.toArray⟩] 9)).cell? ⟨w.heap.size, 0, none⟩ = some (.string ⟨name.toArray⟩) := by
    have h := Blk.cell (Blk.new w 9 #[.string ⟨name.toArray⟩] w.heap.size rfl) 0
    simpa using h
  have CT := Lib.hid (skin_idx (w.alloc (.cells #[.string ⟨name.toArray⟩] 9)) A n c w.heap.size l name hn hn2 (hN.below HB) hk (by simp) _ rfl)
  clear hk HB hN
  go_enter Tryz.func116, Tryz.ntmps116
  go_wp2_with (go_at_call 57; (refine CT.out.mono ?_); rintro e _ ⟨rfl, x9, rfl⟩)
  go_ret
  exact ⟨rfl, grow_of (by repeat (first | with_reducible exact Below.refl _ _ | with_reducible refine bel_then ?_ _ | with_reducible refine bel_grow ?_ _ | with_reducible refine bel_alloc ?_ _ | with_reducible refine bel_drew ?_ | with_reducible refine bel_set ?_ (by simp) _ | with_reducible refine bel_setRow ?_ (by first | omega | (simp; done)) _))⟩

end Go.Proofs.YtdkgbdecmgligaaGreatDoor
