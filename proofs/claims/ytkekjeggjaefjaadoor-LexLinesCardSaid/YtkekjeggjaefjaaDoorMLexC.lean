/- Rows of texts, and whether two are the same. -/
import Derived.Test.YtkekjeggjaefjaaDoorMLexA
namespace Go.Proofs.YtkekjeggjaefjaaDoor
open Go.RowKit
set_option linter.unusedVariables false
set_option linter.unusedSimpArgs false
/-- A row of n texts lies from an address on. -/
def SF (W : World) (A : Option Addr) (n : Nat) (p : Nat → ByteArray) : Prop :=
  0 < n → ∃ b off, A = some ⟨b, off, none⟩ ∧ b < W.heap.size ∧ ∀ i, i < n → W.cell? ⟨b, off + i, none⟩ = some (.string (p i))
theorem SF.below {W W' : World} {A : Option Addr} {n : Nat} {p : Nat → ByteArray} (h : SF W A n p) (hb : Below W.heap.size W W') : SF W' A n p := fun hn => by
  obtain ⟨b, off, e, hl, hc⟩ := h hn
  exact ⟨b, off, e, Nat.lt_of_lt_of_le hl hb.size, fun i hi => (hb.cell (p := ⟨b, _, none⟩) hl).trans (hc i hi)⟩
def eqT (p q : Nat → ByteArray) : Nat → Bool
  | 0 => true
  | k + 1 => eqT p q k && ((p k).toList == (q k).toList)
theorem eqT_no (p q : Nat → ByteArray) (k : Nat) (h : ((p k).toList == (q k).toList) = false) : ∀ n, k < n → eqT p q n = false
  | 0, hn => by omega
  | n + 1, hn => by
    unfold eqT
    by_cases e : k = n
    · subst e; rw [h]; simp
    · rw [eqT_no p q k h n (by omega)]; rfl
def sameT (n m : Nat) (p q : Nat → ByteArray) : Bool := decide (n = m) && eqT p q n
theorem same_len (w : World) (A B : Option Addr) (n m c d : Nat) (h : (n : Int) ≠ (m : Int)) : Calls Tryd.prog 18 #[.slice A n c, .slice B m d] w fun e w' => e = .returned (.bool (false)) ∧ ∃ x, w' = grow w x := by
  have h' : ((n : Int) == (m : Int)) = false := by simpa using h
  go_enter Tryd.func18, Tryd.ntmps18
  go_wp2
  all_goals
    go_ret
    exact ⟨rfl, grow_of (by repeat (first | with_reducible exact Below.refl _ _ | with_reducible refine bel_then ?_ _ | with_reducible refine bel_grow ?_ _ | with_reducible refine bel_alloc ?_ _ | with_reducible refine bel_drew ?_ | with_reducible refine bel_set ?_ (by simp) _ | with_reducible refine bel_setRow ?_ (by first | omega | (simp; done)) _))⟩
theorem same_nil (w : World) (A B : Option Addr) (c d : Nat) : Calls Tryd.prog 18 #[.slice A 0 c, .slice B 0 d] w fun e w' => e = .returned (.bool (true)) ∧ ∃ x, w' = grow w x := by
  go_enter Tryd.func18, Tryd.ntmps18
  go_wp2
  go_loopw [5] (fun i wr => i = .int .i64 0 ∧ wr = w) (fun _ _ => 0)
  case atStart => exact ⟨rfl, rfl⟩
  case round =>
    obtain ⟨rfl, rfl⟩ := hrel
    go_wp2
    go_ret
    exact ⟨rfl, grow_of (Below.refl _ _)⟩
set_option maxHeartbeats 1000000 in
theorem same_core (w : World) (b off b2 off2 n c d : Nat) (p q : Nat → ByteArray) (hn : n ≤ 1048576) (hb : b < w.heap.size) (hb2 : b2 < w.heap.size)
    (hcell : ∀ i, i < n → w.cell? ⟨b, off + i, none⟩ = some (.string (p i))) (hcell2 : ∀ i, i < n → w.cell? ⟨b2, off2 + i, none⟩ = some (.string (q i))) (r : Bool) (hr : eqT p q n = r) :
    Calls Tryd.prog 18 #[.slice (some ⟨b, off, none⟩) n c, .slice (some ⟨b2, off2, none⟩) n d] w fun e w' => e = .returned (.bool (r)) ∧ ∃ x, w' = grow w x := by
  replace hcell := Lib.hid hcell
  replace hcell2 := Lib.hid hcell2
  have HR := Lib.hid hr
  clear hr
  go_enter Tryd.func18, Tryd.ntmps18
  go_wp2
  go_loopw [5] (fun i wr => ∃ k : Nat, i = .int .i64 k ∧ k ≤ n ∧ Hid (eqT p q k = true) ∧ ∃ x, wr = grow w x) (fun i _ => (n - intOf i).toNat)
  case atStart => exact ⟨0, rfl, by omega, Lib.hid rfl, grow_of (Below.refl _ _)⟩
  case round =>
    obtain ⟨k, rfl, hk, heq, xx, rfl⟩ := hrel
    by_cases hlt : k < n
    · have h1 := hcell.out k hlt
      have h2 := hcell2.out k hlt
      have hi0 : (0 : Int) ≤ (k : Int) := by omega
      have hi1 : (k : Int) < (n : Int) := by omega
      cases hq : ((p k).toList == (q k).toList)
      · have HF := Lib.hid (show r = false by rw [← HR.out]; exact eqT_no p q k hq n hlt)
        go_wp2_with fail
        refine wp_region_grow (by kernel_rfl) (by kernel_rfl) ?_
        repeat (go_big_quiet_step ((fail)))
        refine wpQuiet_nil ?_
        rintro _ ⟨xg, rfl⟩
        go_wp2_with fail
        go_ret
        exact ⟨by rw [HF.out]; rfl, grow_of (by repeat (first | with_reducible exact Below.refl _ _ | with_reducible refine bel_then ?_ _ | with_reducible refine bel_grow ?_ _ | with_reducible refine bel_alloc ?_ _ | with_reducible refine bel_drew ?_ | with_reducible refine bel_set ?_ (by simp) _ | with_reducible refine bel_setRow ?_ (by first | omega | (simp; done)) _))⟩
      · have HT := Lib.hid (show eqT p q (k + 1) = true by unfold eqT; rw [heq.out, hq]; rfl)
        go_wp2_with fail
        refine wp_region_grow (by kernel_rfl) (by kernel_rfl) ?_
        repeat (go_big_quiet_step ((fail)))
        refine wpQuiet_nil ?_
        rintro _ ⟨xg, rfl⟩
        go_wp2_with fail
        go_roundw
        case rel => exact ⟨k + 1, by go_num, by omega, HT, grow_of (by repeat (first | with_reducible exact Below.refl _ _ | with_reducible refine bel_then ?_ _ | with_reducible refine bel_grow ?_ _ | with_reducible refine bel_alloc ?_ _ | with_reducible refine bel_drew ?_ | with_reducible refine bel_set ?_ (by simp) _ | with_reducible refine bel_setRow ?_ (by first | omega | (simp; done)) _))⟩
        case measure => simp [intOf] <;> omega
    · obtain rfl : k = n := by omega
      have HT := Lib.hid (show r = true by rw [← HR.out, heq.out])
      go_wp2_with fail
      go_ret
      exact ⟨by rw [HT.out]; rfl, grow_of (by repeat (first | with_reducible exact Below.refl _ _ | with_reducible refine bel_then ?_ _ | with_reducible refine bel_grow ?_ _ | with_reducible refine bel_alloc ?_ _ | with_reducible refine bel_drew ?_ | with_reducible refine bel_set ?_ (by simp) _ | with_reducible refine bel_setRow ?_ (by first | omega | (simp; done)) _))⟩
theorem same_any (w : World) (A B : Option Addr) (n m c d : Nat) (p q : Nat → ByteArray) (hv : SF w A n p) (hu : SF w B m q) (hn : n ≤ 1048576) : Calls Tryd.prog 18 #[.slice A n c, .slice B m d] w fun e w' => e = .returned (.bool (sameT n m p q)) ∧ ∃ x, w' = grow w x := by
  by_cases e : n = m
  · subst e
    have es : sameT n n p q = eqT p q n := by unfold sameT; simp
    rw [es]
    rcases Nat.eq_zero_or_pos n with hz | hz
    · subst hz; exact same_nil w A B c d
    · obtain ⟨b, off, rfl, hb, hcell⟩ := hv hz
      obtain ⟨b2, off2, rfl, hb2, hcell2⟩ := hu hz
      exact same_core w b off b2 off2 n c d p q hn hb hb2 hcell hcell2 _ rfl
  · have es : sameT n m p q = false := by unfold sameT; simp [e]
    rw [es]
    exact same_len w A B n m c d (by omega)
end Go.Proofs.YtkekjeggjaefjaaDoor

/- Rows of lines, and whether two are the same. -/
namespace Go.Proofs.YtkekjeggjaefjaaDoor
open Go.RowKit
set_option linter.unusedVariables false
set_option linter.unusedSimpArgs false
theorem qq1 {P : Program} {f : FuncId} {args : Array Value} {v : Value} {w : World} {y : More} (h : Calls P f args (grow w y) fun e w'' => e = .returned v ∧ ∃ z, w'' = grow (grow w y) z) : Calls P f args (grow w y) fun e w'' => e = .returned v ∧ ∃ z, w'' = grow w z :=
  h.mono fun _ _ ⟨he, z, hz⟩ => ⟨he, y.then z, hz⟩
theorem qq2 {P : Program} {f : FuncId} {args : Array Value} {v : Value} {w : World} {x y : More} (h : Calls P f args (grow w (x.then y)) fun e w'' => e = .returned v ∧ ∃ z, w'' = grow (grow w (x.then y)) z) : Calls P f args (grow w (x.then y)) fun e w'' => e = .returned v ∧ ∃ z, w'' = grow w (x.then z) :=
  h.mono fun _ _ ⟨he, z, hz⟩ => ⟨he, y.then z, hz⟩
/-- A row's words: where they lie, how many, how much room, which. -/
structure Ws where
  at_ : Option Addr
  len : Nat
  cap : Nat
  text : Nat → ByteArray
/-- A row of n lines lies from an address on. -/
def LF (W : World) (A : Option Addr) (n : Nat) (no : Nat → Int) (ws : Nat → Ws) : Prop :=
  0 < n → ∃ b off, A = some ⟨b, off, none⟩ ∧ b < W.heap.size ∧ ∀ i, i < n → W.cell? ⟨b, off + i * 2, none⟩ = some (.int .i64 (no i)) ∧ W.cell? ⟨b, off + i * 2 + 1, none⟩ = some (.slice (ws i).at_ (ws i).len (ws i).cap) ∧ SF W (ws i).at_ (ws i).len (ws i).text ∧ (ws i).len ≤ 1048576
def lnE (no no2 : Nat → Int) (ws ws2 : Nat → Ws) (k : Nat) : Bool := (no k == no2 k) && sameT (ws k).len (ws2 k).len (ws k).text (ws2 k).text
def eqL (no no2 : Nat → Int) (ws ws2 : Nat → Ws) : Nat → Bool
  | 0 => true
  | k + 1 => eqL no no2 ws ws2 k && lnE no no2 ws ws2 k
theorem eqL_no (no no2 : Nat → Int) (ws ws2 : Nat → Ws) (k : Nat) (h : lnE no no2 ws ws2 k = false) : ∀ n, k < n → eqL no no2 ws ws2 n = false
  | 0, hn => by omega
  | n + 1, hn => by
    unfold eqL
    by_cases e : k = n
    · subst e; rw [h]; simp
    · rw [eqL_no no no2 ws ws2 k h n (by omega)]; rfl
set_option maxHeartbeats 2000000 in
theorem sameL_core (w : World) (b off b2 off2 n c d : Nat) (no no2 : Nat → Int) (ws ws2 : Nat → Ws) (hn : n ≤ 1048576) (hb : b < w.heap.size) (hb2 : b2 < w.heap.size)
    (hcell : ∀ i, i < n → w.cell? ⟨b, off + i * 2, none⟩ = some (.int .i64 (no i)) ∧ w.cell? ⟨b, off + i * 2 + 1, none⟩ = some (.slice (ws i).at_ (ws i).len (ws i).cap) ∧ SF w (ws i).at_ (ws i).len (ws i).text ∧ (ws i).len ≤ 1048576)
    (hcell2 : ∀ i, i < n → w.cell? ⟨b2, off2 + i * 2, none⟩ = some (.int .i64 (no2 i)) ∧ w.cell? ⟨b2, off2 + i * 2 + 1, none⟩ = some (.slice (ws2 i).at_ (ws2 i).len (ws2 i).cap) ∧ SF w (ws2 i).at_ (ws2 i).len (ws2 i).text ∧ (ws2 i).len ≤ 1048576)
    (r : Bool) (hr : eqL no no2 ws ws2 n = r) :
    Calls Tryd.prog 12 #[.slice (some ⟨b, off, none⟩) n c, .slice (some ⟨b2, off2, none⟩) n d] w fun e w' => e = .returned (.bool (r)) ∧ ∃ x, w' = grow w x := by
  replace hcell := Lib.hid hcell
  replace hcell2 := Lib.hid hcell2
  have HR := Lib.hid hr
  clear hr
  go_enter Tryd.func12, Tryd.ntmps12
  go_wp2
  go_loopw [5] (fun i wr => ∃ k : Nat, i = .int .i64 k ∧ k ≤ n ∧ Hid (eqL no no2 ws ws2 k = true) ∧ ∃ x, wr = grow w x) (fun i _ => (n - intOf i).toNat)
  case atStart => exact ⟨0, rfl, by omega, Lib.hid rfl, grow_of (Below.refl _ _)⟩
  case round =>
    obtain ⟨k, rfl, hk, heq, xx, rfl⟩ := hrel
    by_cases hlt : k < n
    · obtain ⟨h1, h1', sa, sl⟩ := hcell.out k hlt
      obtain ⟨h2, h2', sb_, _⟩ := hcell2.out k hlt
      have hi0 : (0 : Int) ≤ (k : Int) := by omega
      have hi1 : (k : Int) < (n : Int) := by omega
      have ON := Lib.hid (show lnE no no2 ws ws2 k = true → eqL no no2 ws ws2 (k + 1) = true from fun q => by unfold eqL; rw [heq.out, q]; rfl)
      have OFF := Lib.hid (show lnE no no2 ws ws2 k = false → r = false from fun q => by rw [← HR.out]; exact eqL_no no no2 ws ws2 k q n hlt)
      have LN := Lib.hid (show lnE no no2 ws ws2 k = ((no k == no2 k) && sameT (ws k).len (ws2 k).len (ws k).text (ws2 k).text) from rfl)
      generalize no k = a1 at *
      generalize no2 k = a2 at *
      generalize ws k = v1 at *
      generalize ws2 k = v2 at *
      replace sa := Lib.hid sa
      replace sb_ := Lib.hid sb_
      have CT : ∀ x : More, Calls Tryd.prog 18 #[.slice v1.at_ v1.len v1.cap, .slice v2.at_ v2.len v2.cap] (grow w x) fun e w'' => e = .returned (.bool (sameT v1.len v2.len v1.text v2.text)) ∧ ∃ z, w'' = grow (grow w x) z := fun x => same_any _ _ _ _ _ _ _ _ _ (sa.out.below (x.kept _)) (sb_.out.below (x.kept _)) sl
      replace CT := Lib.hid CT
      generalize sameT v1.len v2.len v1.text v2.text = q at *
      clear sa sb_ sl
      cases hq : (a1 == a2)
      · have HF := Lib.hid (OFF.out (by rw [LN.out, hq]; rfl))
        have hq' : (a1 != a2) = true := by simp [bne, hq]
        go_wp2_with fail
        refine wp_region_grow (by kernel_rfl) (by kernel_rfl) ?_
        repeat (go_big_quiet_step ((fail)))
        refine wpQuiet_nil ?_
        rintro _ ⟨xg, rfl⟩
        go_wp2_with fail
        go_ret
        exact ⟨by rw [HF.out]; rfl, grow_of (by repeat (first | with_reducible exact Below.refl _ _ | with_reducible refine bel_then ?_ _ | with_reducible refine bel_grow ?_ _ | with_reducible refine bel_alloc ?_ _ | with_reducible refine bel_drew ?_ | with_reducible refine bel_set ?_ (by simp) _ | with_reducible refine bel_setRow ?_ (by first | omega | (simp; done)) _))⟩
      · have hq' : (a1 != a2) = false := by simp [bne, hq]
        cases q
        · have HF := Lib.hid (OFF.out (by rw [LN.out]; simp))
          go_wp2_with fail
          refine wp_region_grow (by kernel_rfl) (by kernel_rfl) ?_
          repeat (go_big_quiet_step (((first | exact qq1 (CT.out _) | exact qq2 (CT.out _)))))
          refine wpQuiet_nil ?_
          rintro _ ⟨xg, rfl⟩
          go_wp2_with fail
          go_ret
          exact ⟨by rw [HF.out]; rfl, grow_of (by repeat (first | with_reducible exact Below.refl _ _ | with_reducible refine bel_then ?_ _ | with_reducible refine bel_grow ?_ _ | with_reducible refine bel_alloc ?_ _ | with_reducible refine bel_drew ?_ | with_reducible refine bel_set ?_ (by simp) _ | with_reducible refine bel_setRow ?_ (by first | omega | (simp; done)) _))⟩
        · have HT := Lib.hid (ON.out (by rw [LN.out, hq]; rfl))
          go_wp2_with fail
          refine wp_region_grow (by kernel_rfl) (by kernel_rfl) ?_
          repeat (go_big_quiet_step (((first | exact qq1 (CT.out _) | exact qq2 (CT.out _)))))
          refine wpQuiet_nil ?_
          rintro _ ⟨xg, rfl⟩
          go_wp2_with fail
          go_roundw
          case rel => exact ⟨k + 1, by go_num, by omega, HT, grow_of (by repeat (first | with_reducible exact Below.refl _ _ | with_reducible refine bel_then ?_ _ | with_reducible refine bel_grow ?_ _ | with_reducible refine bel_alloc ?_ _ | with_reducible refine bel_drew ?_ | with_reducible refine bel_set ?_ (by simp) _ | with_reducible refine bel_setRow ?_ (by first | omega | (simp; done)) _))⟩
          case measure => simp [intOf] <;> omega
    · obtain rfl : k = n := by omega
      have HT := Lib.hid (show r = true by rw [← HR.out, heq.out])
      go_wp2_with fail
      go_ret
      exact ⟨by rw [HT.out]; rfl, grow_of (by repeat (first | with_reducible exact Below.refl _ _ | with_reducible refine bel_then ?_ _ | with_reducible refine bel_grow ?_ _ | with_reducible refine bel_alloc ?_ _ | with_reducible refine bel_drew ?_ | with_reducible refine bel_set ?_ (by simp) _ | with_reducible refine bel_setRow ?_ (by first | omega | (simp; done)) _))⟩
theorem sameL_len (w : World) (A B : Option Addr) (n m c d : Nat) (h : (n : Int) ≠ (m : Int)) : Calls Tryd.prog 12 #[.slice A n c, .slice B m d] w fun e w' => e = .returned (.bool (false)) ∧ ∃ x, w' = grow w x := by
  have h' : ((n : Int) == (m : Int)) = false := by simpa using h
  go_enter Tryd.func12, Tryd.ntmps12
  go_wp2
  all_goals
    go_ret
    exact ⟨rfl, grow_of (by repeat (first | with_reducible exact Below.refl _ _ | with_reducible refine bel_then ?_ _ | with_reducible refine bel_grow ?_ _ | with_reducible refine bel_alloc ?_ _ | with_reducible refine bel_drew ?_ | with_reducible refine bel_set ?_ (by simp) _ | with_reducible refine bel_setRow ?_ (by first | omega | (simp; done)) _))⟩
theorem sameL_nil (w : World) (A B : Option Addr) (c d : Nat) : Calls Tryd.prog 12 #[.slice A 0 c, .slice B 0 d] w fun e w' => e = .returned (.bool (true)) ∧ ∃ x, w' = grow w x := by
  go_enter Tryd.func12, Tryd.ntmps12
  go_wp2
  go_loopw [5] (fun i wr => i = .int .i64 0 ∧ wr = w) (fun _ _ => 0)
  case atStart => exact ⟨rfl, rfl⟩
  case round =>
    obtain ⟨rfl, rfl⟩ := hrel
    go_wp2
    go_ret
    exact ⟨rfl, grow_of (Below.refl _ _)⟩
def sameL (n m : Nat) (no no2 : Nat → Int) (ws ws2 : Nat → Ws) : Bool := decide (n = m) && eqL no no2 ws ws2 n
theorem sameL_any (w : World) (A B : Option Addr) (n m c d : Nat) (no no2 : Nat → Int) (ws ws2 : Nat → Ws) (hv : LF w A n no ws) (hu : LF w B m no2 ws2) (hn : n ≤ 1048576) : Calls Tryd.prog 12 #[.slice A n c, .slice B m d] w fun e w' => e = .returned (.bool (sameL n m no no2 ws ws2)) ∧ ∃ x, w' = grow w x := by
  by_cases e : n = m
  · subst e
    have es : sameL n n no no2 ws ws2 = eqL no no2 ws ws2 n := by unfold sameL; simp
    rw [es]
    rcases Nat.eq_zero_or_pos n with hz | hz
    · subst hz; exact sameL_nil w A B c d
    · obtain ⟨b, off, rfl, hb, hcell⟩ := hv hz
      obtain ⟨b2, off2, rfl, hb2, hcell2⟩ := hu hz
      exact sameL_core w b off b2 off2 n c d no no2 ws ws2 hn hb hb2 hcell hcell2 _ rfl
  · have es : sameL n m no no2 ws ws2 = false := by unfold sameL; simp [e]
    rw [es]
    exact sameL_len w A B n m c d (by omega)
theorem LF.below {W W' : World} {A : Option Addr} {n : Nat} {no : Nat → Int} {ws : Nat → Ws} (h : LF W A n no ws) (hb : Below W.heap.size W W') : LF W' A n no ws := fun hn => by
  obtain ⟨b, off, e, hl, hc⟩ := h hn
  refine ⟨b, off, e, Nat.lt_of_lt_of_le hl hb.size, fun i hi => ?_⟩
  obtain ⟨h1, h2, h3, h4⟩ := hc i hi
  exact ⟨(hb.cell (p := ⟨b, _, none⟩) hl).trans h1, (hb.cell (p := ⟨b, _, none⟩) hl).trans h2, h3.below hb, h4⟩
end Go.Proofs.YtkekjeggjaefjaaDoor
