/- The document's own Reader: what a line comes to; the lines of a sky, a light, the camera. -/
import Derived.Test.YtehmlofhiffanaaDoorScnQH
import Derived.Test.YtehmlofhiffanaaDoorMScnQZ
import Derived.Test.YtehmlofhiffanaaDoorScn7
import Derived.Test.YtehmlofhiffanaaDoorScnQ9
namespace Go.Proofs.YtehmlofhiffanaaDoor
open Go.RowKit
set_option linter.unusedVariables false
set_option linter.unusedSimpArgs false
set_option linter.unnecessarySimpa false

theorem readP_err {g : Nat} {TR : TypeId} {W W' : World} {r : Except Nat Scn} (k : Nat) (hg : g < W.heap.size) (hb : Below W.heap.size W W') (hr : r = .error k) : readP g TR W r (.returned (.int .i64 (k : Int))) W' := by
  subst hr; exact ⟨hb.mono (Nat.le_of_lt hg), rfl, hb⟩
theorem readP_ok {g : Nat} {TR : TypeId} {W W' : World} {r : Except Nat Scn} {sc' : Scn} (hr : r = .ok sc') (hb : Below g W W') {val' : Key → Value} (h : RepV g W' g TR sc' val') : readP g TR W r (.returned (.int .i64 0)) W' := by
  subst hr; exact ⟨hb, rfl, val', h⟩
theorem dnums_or {w : World} {l : List Wd} {e : Ending} {w' : World} (h : numsPost w l e w') {n : Nat} (hn : l.length = n) : (numsF l = none ∧ e = .returned (.tuple #[.slice none 0 0, .bool false]) ∧ ∃ x, w' = grow w x) ∨ (∃ ns A c, numsF l = some ns ∧ Hid (ns.length = n) ∧ e = .returned (.tuple #[.slice A n c, .bool true]) ∧ Hid (Below w.heap.size w w') ∧ Hid (w'.ownsRow w.heap.size 3 1 (.slice A n c) n (i64s ns))) := by
  obtain ⟨hb, h⟩ := h
  cases hN : numsF l with
  | none =>
    rw [hN] at h
    obtain ⟨x, rfl⟩ := grow_of hb
    exact .inl ⟨rfl, h, x, rfl⟩
  | some ns =>
    rw [hN] at h
    obtain ⟨v, he, ho⟩ := h
    have hL : ns.length = n := (numsF_len _ _ hN).trans hn
    rw [hL] at ho
    obtain ⟨A, c, rfl⟩ := own_form ho
    exact .inr ⟨ns, A, c, rfl, Lib.hid hL, he, Lib.hid hb, Lib.hid ho⟩
theorem dpoint (W : World) (A : Option Addr) (n c a : Nat) (ai : Int) (ns : List Int) (ha : ai = (a : Int)) (hn : ns.length = n) (hn2 : n ≤ 1048576) (h3 : a + 3 ≤ n) (hI : IF W A ns) :
    Calls Tryd.prog 44 #[.slice A n c, .int .i64 ai] W fun e w' => e = .returned (.agg #[.int .i64 (ns.getD a 0), .int .i64 (ns.getD (a + 1) 0), .int .i64 (ns.getD (a + 2) 0)]) ∧ ∃ x, w' = grow W x := by
  subst ha; exact point_any W A n c a ns hn hn2 h3 hI
theorem dcolor (W : World) (A : Option Addr) (n c a : Nat) (ai : Int) (ns : List Int) (ha : ai = (a : Int)) (hn : ns.length = n) (hn2 : n ≤ 1048576) (h3 : a + 3 ≤ n) (hI : IF W A ns) :
    Calls Tryd.prog 45 #[.slice A n c, .int .i64 ai] W fun e w' => e = .returned (.agg #[.int .i64 (ns.getD a 0), .int .i64 (ns.getD (a + 1) 0), .int .i64 (ns.getD (a + 2) 0)]) ∧ ∃ x, w' = grow W x := by
  subst ha; exact color_any W A n c a ns hn hn2 h3 hI
theorem dwithin (W : World) (A : Option Addr) (n c a b : Nat) (ai bi lo hi : Int) (ns : List Int) (ha : ai = (a : Int)) (hbi : bi = (b : Int)) (hn : ns.length = n) (hn2 : n ≤ 1048576) (hab : a ≤ b) (hb : b ≤ n) (hI : IF W A ns) :
    Calls Tryd.prog 43 #[.slice A n c, .int .i64 ai, .int .i64 bi, .int .i64 lo, .int .i64 hi] W fun e w' => ((wi ns a b lo hi = true ∧ e = .returned (.bool true)) ∨ (wi ns a b lo hi = false ∧ e = .returned (.bool false))) ∧ ∃ x, w' = grow W x := by
  subst ha hbi
  refine (within_any W A n c a b lo hi ns hn hn2 hab hb hI).mono ?_
  rintro e w' ⟨rfl, hx⟩
  refine ⟨?_, hx⟩
  cases wi ns a b lo hi
  · exact .inr ⟨rfl, rfl⟩
  · exact .inl ⟨rfl, rfl⟩
theorem dw_0_3 (W : World) (A : Option Addr) (n c : Nat) (lo hi : Int) (ns : List Int) (hn : ns.length = n) (hn2 : n ≤ 1048576) (hb : 3 ≤ n) (hI : IF W A ns) :
    Calls Tryd.prog 43 #[.slice A n c, .int .i64 0, .int .i64 3, .int .i64 lo, .int .i64 hi] W fun e w' => ((wi ns 0 3 lo hi = true ∧ e = .returned (.bool true)) ∨ (wi ns 0 3 lo hi = false ∧ e = .returned (.bool false))) ∧ ∃ x, w' = grow W x :=
  dwithin W A n c 0 3 0 3 lo hi ns rfl rfl hn hn2 (by omega) hb hI
theorem dw_3_6 (W : World) (A : Option Addr) (n c : Nat) (lo hi : Int) (ns : List Int) (hn : ns.length = n) (hn2 : n ≤ 1048576) (hb : 6 ≤ n) (hI : IF W A ns) :
    Calls Tryd.prog 43 #[.slice A n c, .int .i64 3, .int .i64 6, .int .i64 lo, .int .i64 hi] W fun e w' => ((wi ns 3 6 lo hi = true ∧ e = .returned (.bool true)) ∨ (wi ns 3 6 lo hi = false ∧ e = .returned (.bool false))) ∧ ∃ x, w' = grow W x :=
  dwithin W A n c 3 6 3 6 lo hi ns rfl rfl hn hn2 (by omega) hb hI
theorem dw_0_6 (W : World) (A : Option Addr) (n c : Nat) (lo hi : Int) (ns : List Int) (hn : ns.length = n) (hn2 : n ≤ 1048576) (hb : 6 ≤ n) (hI : IF W A ns) :
    Calls Tryd.prog 43 #[.slice A n c, .int .i64 0, .int .i64 6, .int .i64 lo, .int .i64 hi] W fun e w' => ((wi ns 0 6 lo hi = true ∧ e = .returned (.bool true)) ∨ (wi ns 0 6 lo hi = false ∧ e = .returned (.bool false))) ∧ ∃ x, w' = grow W x :=
  dwithin W A n c 0 6 0 6 lo hi ns rfl rfl hn hn2 (by omega) hb hI
theorem dw_6_12 (W : World) (A : Option Addr) (n c : Nat) (lo hi : Int) (ns : List Int) (hn : ns.length = n) (hn2 : n ≤ 1048576) (hb : 12 ≤ n) (hI : IF W A ns) :
    Calls Tryd.prog 43 #[.slice A n c, .int .i64 6, .int .i64 12, .int .i64 lo, .int .i64 hi] W fun e w' => ((wi ns 6 12 lo hi = true ∧ e = .returned (.bool true)) ∨ (wi ns 6 12 lo hi = false ∧ e = .returned (.bool false))) ∧ ∃ x, w' = grow W x :=
  dwithin W A n c 6 12 6 12 lo hi ns rfl rfl hn hn2 (by omega) hb hI
theorem dw_12_14 (W : World) (A : Option Addr) (n c : Nat) (lo hi : Int) (ns : List Int) (hn : ns.length = n) (hn2 : n ≤ 1048576) (hb : 14 ≤ n) (hI : IF W A ns) :
    Calls Tryd.prog 43 #[.slice A n c, .int .i64 12, .int .i64 14, .int .i64 lo, .int .i64 hi] W fun e w' => ((wi ns 12 14 lo hi = true ∧ e = .returned (.bool true)) ∨ (wi ns 12 14 lo hi = false ∧ e = .returned (.bool false))) ∧ ∃ x, w' = grow W x :=
  dwithin W A n c 12 14 12 14 lo hi ns rfl rfl hn hn2 (by omega) hb hI
theorem dw_14_15 (W : World) (A : Option Addr) (n c : Nat) (lo hi : Int) (ns : List Int) (hn : ns.length = n) (hn2 : n ≤ 1048576) (hb : 15 ≤ n) (hI : IF W A ns) :
    Calls Tryd.prog 43 #[.slice A n c, .int .i64 14, .int .i64 15, .int .i64 lo, .int .i64 hi] W fun e w' => ((wi ns 14 15 lo hi = true ∧ e = .returned (.bool true)) ∨ (wi ns 14 15 lo hi = false ∧ e = .returned (.bool false))) ∧ ∃ x, w' = grow W x :=
  dwithin W A n c 14 15 14 15 lo hi ns rfl rfl hn hn2 (by omega) hb hI
theorem dw_15_16 (W : World) (A : Option Addr) (n c : Nat) (lo hi : Int) (ns : List Int) (hn : ns.length = n) (hn2 : n ≤ 1048576) (hb : 16 ≤ n) (hI : IF W A ns) :
    Calls Tryd.prog 43 #[.slice A n c, .int .i64 15, .int .i64 16, .int .i64 lo, .int .i64 hi] W fun e w' => ((wi ns 15 16 lo hi = true ∧ e = .returned (.bool true)) ∨ (wi ns 15 16 lo hi = false ∧ e = .returned (.bool false))) ∧ ∃ x, w' = grow W x :=
  dwithin W A n c 15 16 15 16 lo hi ns rfl rfl hn hn2 (by omega) hb hI
theorem dw_0_2 (W : World) (A : Option Addr) (n c : Nat) (lo hi : Int) (ns : List Int) (hn : ns.length = n) (hn2 : n ≤ 1048576) (hb : 2 ≤ n) (hI : IF W A ns) :
    Calls Tryd.prog 43 #[.slice A n c, .int .i64 0, .int .i64 2, .int .i64 lo, .int .i64 hi] W fun e w' => ((wi ns 0 2 lo hi = true ∧ e = .returned (.bool true)) ∨ (wi ns 0 2 lo hi = false ∧ e = .returned (.bool false))) ∧ ∃ x, w' = grow W x :=
  dwithin W A n c 0 2 0 2 lo hi ns rfl rfl hn hn2 (by omega) hb hI
theorem dw_3_4 (W : World) (A : Option Addr) (n c : Nat) (lo hi : Int) (ns : List Int) (hn : ns.length = n) (hn2 : n ≤ 1048576) (hb : 4 ≤ n) (hI : IF W A ns) :
    Calls Tryd.prog 43 #[.slice A n c, .int .i64 3, .int .i64 4, .int .i64 lo, .int .i64 hi] W fun e w' => ((wi ns 3 4 lo hi = true ∧ e = .returned (.bool true)) ∨ (wi ns 3 4 lo hi = false ∧ e = .returned (.bool false))) ∧ ∃ x, w' = grow W x :=
  dwithin W A n c 3 4 3 4 lo hi ns rfl rfl hn hn2 (by omega) hb hI
theorem dw_4_5 (W : World) (A : Option Addr) (n c : Nat) (lo hi : Int) (ns : List Int) (hn : ns.length = n) (hn2 : n ≤ 1048576) (hb : 5 ≤ n) (hI : IF W A ns) :
    Calls Tryd.prog 43 #[.slice A n c, .int .i64 4, .int .i64 5, .int .i64 lo, .int .i64 hi] W fun e w' => ((wi ns 4 5 lo hi = true ∧ e = .returned (.bool true)) ∨ (wi ns 4 5 lo hi = false ∧ e = .returned (.bool false))) ∧ ∃ x, w' = grow W x :=
  dwithin W A n c 4 5 4 5 lo hi ns rfl rfl hn hn2 (by omega) hb hI
theorem dw_5_7 (W : World) (A : Option Addr) (n c : Nat) (lo hi : Int) (ns : List Int) (hn : ns.length = n) (hn2 : n ≤ 1048576) (hb : 7 ≤ n) (hI : IF W A ns) :
    Calls Tryd.prog 43 #[.slice A n c, .int .i64 5, .int .i64 7, .int .i64 lo, .int .i64 hi] W fun e w' => ((wi ns 5 7 lo hi = true ∧ e = .returned (.bool true)) ∨ (wi ns 5 7 lo hi = false ∧ e = .returned (.bool false))) ∧ ∃ x, w' = grow W x :=
  dwithin W A n c 5 7 5 7 lo hi ns rfl rfl hn hn2 (by omega) hb hI
theorem dw_7_8 (W : World) (A : Option Addr) (n c : Nat) (lo hi : Int) (ns : List Int) (hn : ns.length = n) (hn2 : n ≤ 1048576) (hb : 8 ≤ n) (hI : IF W A ns) :
    Calls Tryd.prog 43 #[.slice A n c, .int .i64 7, .int .i64 8, .int .i64 lo, .int .i64 hi] W fun e w' => ((wi ns 7 8 lo hi = true ∧ e = .returned (.bool true)) ∨ (wi ns 7 8 lo hi = false ∧ e = .returned (.bool false))) ∧ ∃ x, w' = grow W x :=
  dwithin W A n c 7 8 7 8 lo hi ns rfl rfl hn hn2 (by omega) hb hI
theorem dw_0_1 (W : World) (A : Option Addr) (n c : Nat) (lo hi : Int) (ns : List Int) (hn : ns.length = n) (hn2 : n ≤ 1048576) (hb : 1 ≤ n) (hI : IF W A ns) :
    Calls Tryd.prog 43 #[.slice A n c, .int .i64 0, .int .i64 1, .int .i64 lo, .int .i64 hi] W fun e w' => ((wi ns 0 1 lo hi = true ∧ e = .returned (.bool true)) ∨ (wi ns 0 1 lo hi = false ∧ e = .returned (.bool false))) ∧ ∃ x, w' = grow W x :=
  dwithin W A n c 0 1 0 1 lo hi ns rfl rfl hn hn2 (by omega) hb hI
theorem dw_1_2 (W : World) (A : Option Addr) (n c : Nat) (lo hi : Int) (ns : List Int) (hn : ns.length = n) (hn2 : n ≤ 1048576) (hb : 2 ≤ n) (hI : IF W A ns) :
    Calls Tryd.prog 43 #[.slice A n c, .int .i64 1, .int .i64 2, .int .i64 lo, .int .i64 hi] W fun e w' => ((wi ns 1 2 lo hi = true ∧ e = .returned (.bool true)) ∨ (wi ns 1 2 lo hi = false ∧ e = .returned (.bool false))) ∧ ∃ x, w' = grow W x :=
  dwithin W A n c 1 2 1 2 lo hi ns rfl rfl hn hn2 (by omega) hb hI
theorem dw_2_3 (W : World) (A : Option Addr) (n c : Nat) (lo hi : Int) (ns : List Int) (hn : ns.length = n) (hn2 : n ≤ 1048576) (hb : 3 ≤ n) (hI : IF W A ns) :
    Calls Tryd.prog 43 #[.slice A n c, .int .i64 2, .int .i64 3, .int .i64 lo, .int .i64 hi] W fun e w' => ((wi ns 2 3 lo hi = true ∧ e = .returned (.bool true)) ∨ (wi ns 2 3 lo hi = false ∧ e = .returned (.bool false))) ∧ ∃ x, w' = grow W x :=
  dwithin W A n c 2 3 2 3 lo hi ns rfl rfl hn hn2 (by omega) hb hI
theorem SFW.tail0 {W : World} {b off n : Nat} {k : Wd} {ws : List Wd} (hn : ws.length = n) : n = 0 → ∀ A, SFW W A ws := fun h A hh => by rw [hn] at hh; omega
theorem ne_len {n m : Nat} (h : ¬ n = m) : (((n : Int) == (m : Int)) = false) ∧ (¬ (n : Int) = (m : Int)) := ⟨by rw [beq_eq_false_iff_ne]; omega, by omega⟩
set_option maxRecDepth 100000 in
set_option maxHeartbeats 4000000 in
theorem dsky (W : World) (g n c b off : Nat) (sc : Scn) (val : Key → Value) (k : Wd) (ws : List Wd) (hn : ws.length = n) (hl : n ≤ 65537) (hc : n + 1 ≤ c) (hA : SFW W (some ⟨b, off, none⟩) (k :: ws)) (hR : RepV g W g 61 sc val) :
    Calls Tryd.prog 23 #[.pointer (some ⟨g, 0, none⟩), .slice (some ⟨b, off, none⟩) (n + 1) c] W fun e W' => readP g 61 W (skyF sc ws) e W' := by
  have hgl := hR.lt
  have HR := Lib.hid hR
  clear hR
  have hT := hA.tail
  have hT0 := SFW.tail0 (W := W) (b := b) (off := off) (k := k) hn
  have HF := Lib.hid (show skyF sc ws = (match numsF ws with | none => .error 10 | some n => if n.length ≠ 3 then .error 10 else if sc.sky.isSome then .error 12 else if wi n 0 3 0 255 then .ok { sc with sky := some n } else .error 11) from rfl)
  by_cases q : n = 3
  · subst q
    generalize hsn : sc.sky.isSome = sn at *
    replace hsn := Lib.hid hsn
    go_enter Tryd.func23, Tryd.ntmps23
    go_wp2_with (first | (go_at_call 42; (with_reducible refine (numbers_any _ _ _ 3 ws hn hl ?_).mono ?_); (first | exact hT | exact hT0 (by omega) _); rintro e V1 hp; rcases dnums_or hp hn with ⟨hN, rfl, x2, rfl⟩ | ⟨ns, A2, c2, hN, hL, rfl, hbV, hown⟩; rotate_left; (have HRV := Lib.hid (HR.out.below hbV.out); have HIV := Lib.hid (IF_of_own hown.out hL.out); have c16 := HRV.out.blk.cell 16; have z16 := HRV.out.blk.frozen 16; have c17 := HRV.out.blk.cell 17; have z17 := HRV.out.blk.frozen 17; have c18 := HRV.out.blk.cell 18; have z18 := HRV.out.blk.frozen 18; have c25 : V1.cell? ⟨g, 25, none⟩ = some (.bool sn) := (by rw [← hsn.out]; exact HRV.out.blk.cell 25); have z25 := HRV.out.blk.frozen 25; have hVl := HRV.out.lt; replace c16 : V1.cell? ⟨g, 16, none⟩ = some (.int .i64 ((skyN sc).getD 0 0)) := c16; replace c17 : V1.cell? ⟨g, 17, none⟩ = some (.int .i64 ((skyN sc).getD 1 0)) := c17; replace c18 : V1.cell? ⟨g, 18, none⟩ = some (.int .i64 ((skyN sc).getD 2 0)) := c18)) | (go_at_call 43; (with_reducible refine (dw_0_3 _ _ 3 _ _ _ ns hL.out (by omega) (by omega) (HIV.out.below (by repeat (first | with_reducible exact Below.refl _ _ | with_reducible refine bel_then ?_ _ | with_reducible refine bel_grow ?_ _ | with_reducible refine bel_alloc ?_ _ | with_reducible refine bel_drew ?_ | with_reducible refine bel_set ?_ (by simp) _ | with_reducible refine bel_setRow ?_ (by first | omega | (simp; done)) _)))).mono ?_); rintro e _ ⟨⟨hw, rfl⟩ | ⟨hw, rfl⟩, x3, rfl⟩) | (go_at_call 45; (with_reducible refine (dcolor _ _ 3 _ 0 0 ns rfl hL.out (by omega) (by omega) ?_).mono ?_); rotate_left; rintro e _ ⟨rfl, x4, rfl⟩))
    rotate_left 2
    · exact IF_but hown.out hL.out hgl (by (repeat (first | with_reducible exact World.grownBy.refl _ _ | with_reducible refine gb_grow ?_ _ | with_reducible refine gb_set ?_ _ _ | with_reducible refine gb_alloc ?_ _)))
    all_goals go_ret
    all_goals first | exact readP_err 10 hgl (by repeat (first | with_reducible exact Below.refl _ _ | with_reducible refine bel_then ?_ _ | with_reducible refine bel_grow ?_ _ | with_reducible refine bel_alloc ?_ _ | with_reducible refine bel_drew ?_ | with_reducible refine bel_set ?_ (by simp) _ | with_reducible refine bel_setRow ?_ (by first | omega | (simp; done)) _)) (by rw [HF.out, hN]) | exact readP_err 12 hgl (bel_trans hbV.out (by repeat (first | with_reducible exact Below.refl _ _ | with_reducible refine bel_then ?_ _ | with_reducible refine bel_grow ?_ _ | with_reducible refine bel_alloc ?_ _ | with_reducible refine bel_drew ?_ | with_reducible refine bel_set ?_ (by simp) _ | with_reducible refine bel_setRow ?_ (by first | omega | (simp; done)) _))) (by rw [HF.out, hN]; have := hL.out; have := hsn.out; simp_all) | exact readP_err 11 hgl (bel_trans hbV.out (by repeat (first | with_reducible exact Below.refl _ _ | with_reducible refine bel_then ?_ _ | with_reducible refine bel_grow ?_ _ | with_reducible refine bel_alloc ?_ _ | with_reducible refine bel_drew ?_ | with_reducible refine bel_set ?_ (by simp) _ | with_reducible refine bel_setRow ?_ (by first | omega | (simp; done)) _))) (by rw [HF.out, hN]; have := hL.out; have := hsn.out; simp_all) | skip
    have hl3 : ns.length = 3 := hL.out
    have hs0 : sn = false := by simp_all
    refine readP_ok (sc' := { sc with sky := some ns }) (by rw [HF.out, hN]; simp [hl3, hs0, hw]) ((hbV.out.mono (Nat.le_of_lt hgl)).trans (fr_gb (TR := 61) (by (repeat (first | with_reducible exact World.grownBy.refl _ _ | with_reducible refine gb_grow ?_ _ | with_reducible refine gb_set ?_ _ _ | with_reducible refine gb_alloc ?_ _))) HRV.out.blk).1) (HRV.out.but (by (repeat (first | with_reducible exact World.grownBy.refl _ _ | with_reducible refine gb_grow ?_ _ | with_reducible refine gb_set ?_ _ _ | with_reducible refine gb_alloc ?_ _))) ?_ rfl rfl rfl)
    rw [show rcells { sc with sky := some ns } val = (((((rcells sc val).setIfInBounds 25 (.bool true)).setIfInBounds 16 (.int .i64 (ns.getD 0 0))).setIfInBounds 17 (.int .i64 (ns.getD 1 0))).setIfInBounds 18 (.int .i64 (ns.getD 2 0))) from by simp [rcells, skyN, camN]]
    (repeat (first | with_reducible exact HRV.out.blk | with_reducible refine Blk.grow ?_ _ | with_reducible refine Blk.alloc ?_ _ | with_reducible refine Blk.set ?_ _ _))
    exact Blk.set (Blk.set (Blk.set (Blk.set HRV.out.blk 25 _) 16 _) 17 _) 18 _
  ·
    have e1 : ((n : Int) == 3) = false := (ne_len (m := 3) q).1
    have e2 : ¬ (n : Int) = 3 := (ne_len (m := 3) q).2
    go_enter Tryd.func23, Tryd.ntmps23
    go_wp2_with (go_at_call 42; (with_reducible refine (numbers_any _ _ _ n ws hn hl ?_).mono ?_); (first | exact hT | exact hT0 (by omega) _); rintro e V1 hp; rcases dnums_or hp hn with ⟨hN, rfl, x2, rfl⟩ | ⟨ns, A2, c2, hN, hL, rfl, hbV, hown⟩; rotate_left; (skip))
    all_goals go_ret
    all_goals first | exact readP_err 10 hgl hbV.out (by rw [HF.out, hN]; have := hL.out; simp; omega) | exact readP_err 10 hgl (by repeat (first | with_reducible exact Below.refl _ _ | with_reducible refine bel_then ?_ _ | with_reducible refine bel_grow ?_ _ | with_reducible refine bel_alloc ?_ _ | with_reducible refine bel_drew ?_ | with_reducible refine bel_set ?_ (by simp) _ | with_reducible refine bel_setRow ?_ (by first | omega | (simp; done)) _)) (by rw [HF.out, hN])

set_option maxRecDepth 100000 in
set_option maxHeartbeats 4000000 in
theorem dlight (W : World) (g n c b off : Nat) (sc : Scn) (val : Key → Value) (k : Wd) (ws : List Wd) (hn : ws.length = n) (hl : n ≤ 65537) (hc : n + 1 ≤ c) (hA : SFW W (some ⟨b, off, none⟩) (k :: ws)) (hR : RepV g W g 61 sc val) :
    Calls Tryd.prog 24 #[.pointer (some ⟨g, 0, none⟩), .slice (some ⟨b, off, none⟩) (n + 1) c] W fun e W' => readP g 61 W (lightF sc ws) e W' := by
  have hgl := hR.lt
  have HR := Lib.hid hR
  obtain ⟨A1, a1, hv⟩ := own_form (show W.ownsRow g 63 6 (val .lights) sc.lights.length (sc.lights.flatMap fL) from hR.own.row .lights)
  obtain ⟨i0, hi0, hz0, hz1, hz2⟩ := info_parts infoLt
  have HV := Lib.hid hv
  clear hR hv
  have hT := hA.tail
  have hT0 := SFW.tail0 (W := W) (b := b) (off := off) (k := k) hn
  have HF := Lib.hid (show lightF sc ws = (match numsF ws with | none => .error 10 | some n => if n.length ≠ 6 then .error 10 else if 4 ≤ sc.lights.length then .error 13 else if (wi n 0 3 (-16384) 16384 && wi n 3 6 0 255) then .ok { sc with lights := sc.lights ++ [n] } else .error 11) from rfl)
  by_cases q : n = 6
  · subst q
    go_enter Tryd.func24, Tryd.ntmps24
    go_wp2_with (first | (go_at_call 42; (with_reducible refine (numbers_any _ _ _ 6 ws hn hl ?_).mono ?_); (first | exact hT | exact hT0 (by omega) _); rintro e V1 hp; rcases dnums_or hp hn with ⟨hN, rfl, x2, rfl⟩ | ⟨ns, A2, c2, hN, hL, rfl, hbV, hown⟩; rotate_left; (have HRV := Lib.hid (HR.out.below hbV.out); have HIV := Lib.hid (IF_of_own hown.out hL.out); have c19 : V1.cell? ⟨g, 19, none⟩ = some (.slice A1 sc.lights.length a1) := (by rw [← HV.out]; exact HRV.out.blk.cell 19); have z19 := HRV.out.blk.frozen 19; have hVl := HRV.out.lt)) | (go_at_call 43; (with_reducible refine (dw_0_3 _ _ 6 _ _ _ ns hL.out (by omega) (by omega) (HIV.out.below (by repeat (first | with_reducible exact Below.refl _ _ | with_reducible refine bel_then ?_ _ | with_reducible refine bel_grow ?_ _ | with_reducible refine bel_alloc ?_ _ | with_reducible refine bel_drew ?_ | with_reducible refine bel_set ?_ (by simp) _ | with_reducible refine bel_setRow ?_ (by first | omega | (simp; done)) _)))).mono ?_); rintro e _ ⟨⟨hw1, rfl⟩ | ⟨hw1, rfl⟩, x3, rfl⟩) | (go_at_call 43; (with_reducible refine (dw_3_6 _ _ 6 _ _ _ ns hL.out (by omega) (by omega) (HIV.out.below (by repeat (first | with_reducible exact Below.refl _ _ | with_reducible refine bel_then ?_ _ | with_reducible refine bel_grow ?_ _ | with_reducible refine bel_alloc ?_ _ | with_reducible refine bel_drew ?_ | with_reducible refine bel_set ?_ (by simp) _ | with_reducible refine bel_setRow ?_ (by first | omega | (simp; done)) _)))).mono ?_); rintro e _ ⟨⟨hw2, rfl⟩ | ⟨hw2, rfl⟩, x3, rfl⟩))
    rotate_left
    · have hl6 : ns.length = 6 := hL.out
      have HS := Lib.hid (show lightF sc ws = .ok { sc with lights := sc.lights ++ [ns] } by rw [HF.out, hN]; simp [hl6, hw1, hw2]; omega)
      clear HF hw1 hw2 c19 z19
      refine wp_letter (fun V hVe => ?_)
      have hBV : Below V1.heap.size V1 V := by rw [hVe]; (repeat (first | with_reducible exact Below.refl _ _ | with_reducible refine bel_then ?_ _ | with_reducible refine bel_grow ?_ _ | with_reducible refine bel_alloc ?_ _ | with_reducible refine bel_drew ?_ | with_reducible refine bel_set ?_ (by simp) _ | with_reducible refine bel_setRow ?_ (by first | omega | (simp; done)) _))
      clear hVe
      have hB1 : Below W.heap.size W V := bel_trans hbV.out hBV
      have HRW := HRV.out.below hBV
      have hIV : IF V A2 ns := HIV.out.below hBV
      clear HRV HIV hVl
      have c19 : V.cell? ⟨g, 19, none⟩ = some (.slice A1 sc.lights.length a1) := by rw [← HV.out]; exact HRW.blk.cell 19
      have z19 := HRW.blk.frozen 19
      have hVl := HRW.lt
      have OW : ∀ x, (grow V x).ownsRow g 63 6 (.slice A1 sc.lights.length a1) sc.lights.length (sc.lights.flatMap fL) := by
        intro x; rw [← HV.out]; exact (HRW.grow x).own.row .lights
      have CP := Lib.hid (fun (x : More) => dpoint (grow V x) A2 6 c2 0 0 ns rfl hL.out (by decide) (by decide) (hIV.below (bel_grow (Below.refl _ _) x)))
      have CC := Lib.hid (fun (x : More) => dcolor (grow V x) A2 6 c2 3 3 ns rfl hL.out (by decide) (by decide) (hIV.below (bel_grow (Below.refl _ _) x)))
      replace OW := Lib.hid OW
      have HRV := Lib.hid HRW
      have HNS := Lib.hid (show fL ns = [.int .i64 (ns.getD 0 0), .int .i64 (ns.getD (0 + 1) 0), .int .i64 (ns.getD (0 + 2) 0), .int .i64 (ns.getD 3 0), .int .i64 (ns.getD (3 + 1) 0), .int .i64 (ns.getD (3 + 2) 0)] from rfl)
      generalize ns.getD 0 0 = p0 at *
      generalize ns.getD (0 + 1) 0 = p1 at *
      generalize ns.getD (0 + 2) 0 = p2 at *
      generalize ns.getD 3 0 = p3 at *
      generalize ns.getD (3 + 1) 0 = p4 at *
      generalize ns.getD (3 + 2) 0 = p5 at *
      clear hown hIV hp HRW
      refine wp_region_makeS_ 11 ?_ (.pointer (some ⟨g, 0, none⟩)) 46 (.cells #[.int .i64 p0, .int .i64 p1, .int .i64 p2, .int .i64 p3, .int .i64 p4, .int .i64 p5] 63) (by kernel_rfl) (by kernel_rfl) (by kernel_rfl) rfl rfl rfl (fun _ _ _ h => h) ?_ (fun x => ?_) (fun x y => ?_)
      rotate_left 2
      · simp only [List.take_succ_cons, List.take_zero, List.tail_cons, Act.put, List.setIfInBounds_toArray, List.set_cons_succ, List.set_cons_zero]
        repeat (go_big_quiet_step (((first | exact qq1 (CP.out _) | exact qq2 (CP.out _) | exact qq1 (CC.out _) | exact qq2 (CC.out _)))))
        refine wpQuiet_nil ?_
        exact rfl
      rotate_left
      · exact ⟨_, rfl, rfl, rfl, fun u => by simp [execOp, go_sem]⟩
      simp only [List.drop_succ_cons, List.drop_zero]
      try simp only [Act.put, List.setIfInBounds_toArray, List.set_cons_succ, List.set_cons_zero]
      go_wp2_with (at_builtin; go_loud (refine wpList_append_own_at _ rfl _ _ 29 rfl g 63 i0 _ 6 48 Tryd.underlying29 hi0 hz0 hz1 hz2 rfl (by decide) _ _ _ rfl (own_grow ((OW.out _).alloc _) _) ⟨_, 0, none⟩ 1 1 [.int .i64 p0, .int .i64 p1, .int .i64 p2, .int .i64 p3, .int .i64 p4, .int .i64 p5] rfl rfl (cell_newG _ [.int .i64 p0, .int .i64 p1, .int .i64 p2, .int .i64 p3, .int .i64 p4, .int .i64 p5] _ _) (fun u hu => by simp at hu; rcases hu with rfl | rfl | rfl | rfl | rfl | rfl <;> rfl) (by unfold maxLen; omega) (by omega) (Nat.le_trans (Nat.le_of_lt hVl) (@Below.size V.heap.size V _ (by repeat (first | with_reducible exact Below.refl _ _ | with_reducible refine bel_then ?_ _ | with_reducible refine bel_grow ?_ _ | with_reducible refine bel_alloc ?_ _ | with_reducible refine bel_drew ?_ | with_reducible refine bel_set ?_ (by simp) _ | with_reducible refine bel_setRow ?_ (by first | omega | (simp; done)) _)))) ?_); intro v4 w4 hown4 hgr4 hnil4 hat4; clear hnil4; obtain ⟨A4, a4, rfl⟩ := own_form hown4; go_loud (obtain ⟨B4, R4⟩ := HRV.out.lightsP HV.out ns HNS.out _ hgr4 hown4 hat4 (by repeat (first | with_reducible exact Below.refl _ _ | with_reducible refine bel_then ?_ _ | with_reducible refine bel_grow ?_ _ | with_reducible refine bel_alloc ?_ _ | with_reducible refine bel_drew ?_ | with_reducible refine bel_set ?_ (by simp) _ | with_reducible refine bel_setRow ?_ (by first | omega | (simp; done)) _)); have hB4 := fr_app (TR := 61) hB1 hgl hgr4 (own_typed (OW.out More.none_)) (by decide) (Nat.le_refl _) HRV.out.blk (fun h => h) 19 (.slice A4 (sc.lights.length + 1) a4) (by repeat (first | with_reducible exact Below.refl _ _ | with_reducible refine bel_then ?_ _ | with_reducible refine bel_grow ?_ _ | with_reducible refine bel_alloc ?_ _ | with_reducible refine bel_drew ?_ | with_reducible refine bel_set ?_ (by simp) _ | with_reducible refine bel_setRow ?_ (by first | omega | (simp; done)) _)); have c4 : w4.cell? ⟨g, 19, none⟩ = some (val .lights) := B4.cell 19; have z4 := B4.frozen 19; replace R4 := Lib.hid R4; replace hB4 := Lib.hid hB4; clear hgr4 hown4 hat4))
      go_ret
      exact readP_ok HS.out hB4.out.1 R4.out
    all_goals go_ret
    all_goals first | exact readP_err 10 hgl (by repeat (first | with_reducible exact Below.refl _ _ | with_reducible refine bel_then ?_ _ | with_reducible refine bel_grow ?_ _ | with_reducible refine bel_alloc ?_ _ | with_reducible refine bel_drew ?_ | with_reducible refine bel_set ?_ (by simp) _ | with_reducible refine bel_setRow ?_ (by first | omega | (simp; done)) _)) (by rw [HF.out, hN]) | exact readP_err 13 hgl (bel_trans hbV.out (by repeat (first | with_reducible exact Below.refl _ _ | with_reducible refine bel_then ?_ _ | with_reducible refine bel_grow ?_ _ | with_reducible refine bel_alloc ?_ _ | with_reducible refine bel_drew ?_ | with_reducible refine bel_set ?_ (by simp) _ | with_reducible refine bel_setRow ?_ (by first | omega | (simp; done)) _))) (by rw [HF.out, hN]; dsimp only; rw [if_neg (fun h => h hL.out), if_pos (by omega)]) | exact readP_err 11 hgl (bel_trans hbV.out (by repeat (first | with_reducible exact Below.refl _ _ | with_reducible refine bel_then ?_ _ | with_reducible refine bel_grow ?_ _ | with_reducible refine bel_alloc ?_ _ | with_reducible refine bel_drew ?_ | with_reducible refine bel_set ?_ (by simp) _ | with_reducible refine bel_setRow ?_ (by first | omega | (simp; done)) _))) (by rw [HF.out, hN]; dsimp only; rw [if_neg (fun h => h hL.out), if_neg (by omega), if_neg (by first | (rw [hw1]; simp; done) | (rw [hw2]; simp; done))])
  ·
    have e1 : ((n : Int) == 6) = false := (ne_len (m := 6) q).1
    have e2 : ¬ (n : Int) = 6 := (ne_len (m := 6) q).2
    go_enter Tryd.func24, Tryd.ntmps24
    go_wp2_with (go_at_call 42; (with_reducible refine (numbers_any _ _ _ n ws hn hl ?_).mono ?_); (first | exact hT | exact hT0 (by omega) _); rintro e V1 hp; rcases dnums_or hp hn with ⟨hN, rfl, x2, rfl⟩ | ⟨ns, A2, c2, hN, hL, rfl, hbV, hown⟩; rotate_left; (skip))
    all_goals go_ret
    all_goals first | exact readP_err 10 hgl hbV.out (by rw [HF.out, hN]; have := hL.out; simp; omega) | exact readP_err 10 hgl (by repeat (first | with_reducible exact Below.refl _ _ | with_reducible refine bel_then ?_ _ | with_reducible refine bel_grow ?_ _ | with_reducible refine bel_alloc ?_ _ | with_reducible refine bel_drew ?_ | with_reducible refine bel_set ?_ (by simp) _ | with_reducible refine bel_setRow ?_ (by first | omega | (simp; done)) _)) (by rw [HF.out, hN])

end Go.Proofs.YtehmlofhiffanaaDoor

/- The document's own Reader: the line of the camera. -/
namespace Go.Proofs.YtehmlofhiffanaaDoor
open Go.RowKit
set_option linter.unusedVariables false
set_option linter.unusedSimpArgs false
set_option linter.unnecessarySimpa false

set_option maxRecDepth 100000 in
set_option maxHeartbeats 4000000 in
theorem dcamera (W : World) (g n c b off : Nat) (sc : Scn) (val : Key → Value) (k : Wd) (ws : List Wd) (hn : ws.length = n) (hl : n ≤ 65537) (hc : n + 1 ≤ c) (hA : SFW W (some ⟨b, off, none⟩) (k :: ws)) (hR : RepV g W g 61 sc val) :
    Calls Tryd.prog 22 #[.pointer (some ⟨g, 0, none⟩), .slice (some ⟨b, off, none⟩) (n + 1) c] W fun e W' => readP g 61 W (camF sc ws) e W' := by
  have hgl := hR.lt
  have HR := Lib.hid hR
  clear hR
  have hT := hA.tail
  have hT0 := SFW.tail0 (W := W) (b := b) (off := off) (k := k) hn
  have HF := Lib.hid (show camF sc ws = (match numsF ws with
  | none => .error 10
  | some n => if n.length ≠ 16 then .error 10 else if sc.cam.isSome then .error 12
    else if (wi n 0 6 (-16384) 16384 && wi n 6 12 (-32) 32 && wi n 12 14 1 64 && wi n 14 15 1 4 && wi n 15 16 0 8) then .ok { sc with cam := some n } else .error 11) from rfl)
  by_cases q : n = 16
  · subst q
    generalize hsn : sc.cam.isSome = sn at *
    replace hsn := Lib.hid hsn
    go_enter Tryd.func22, Tryd.ntmps22
    go_wp2_with (first | (go_at_call 42; (with_reducible refine (numbers_any _ _ _ 16 ws hn hl ?_).mono ?_); (first | exact hT | exact hT0 (by omega) _); rintro e V hp; rcases dnums_or hp hn with ⟨hN, rfl, x2, rfl⟩ | ⟨ns, A2, c2, hN, hL, rfl, hbV, hown⟩; rotate_left; (have HRV := Lib.hid (HR.out.below hbV.out); have HIV := Lib.hid (IF_of_own hown.out hL.out); have hVl := HRV.out.lt; have c24 : V.cell? ⟨g, 24, none⟩ = some (.bool sn) := (by rw [← hsn.out]; exact HRV.out.blk.cell 24); have z24 := HRV.out.blk.frozen 24)) | (go_at_call 43; (with_reducible refine (dw_0_6 _ _ 16 _ _ _ ns hL.out (by omega) (by omega) (HIV.out.below (by repeat (first | with_reducible exact Below.refl _ _ | with_reducible refine bel_then ?_ _ | with_reducible refine bel_grow ?_ _ | with_reducible refine bel_alloc ?_ _ | with_reducible refine bel_drew ?_ | with_reducible refine bel_set ?_ (by simp) _ | with_reducible refine bel_setRow ?_ (by first | omega | (simp; done)) _)))).mono ?_); rintro e _ ⟨⟨hw1, rfl⟩ | ⟨hw1, rfl⟩, x3, rfl⟩) | (go_at_call 43; (with_reducible refine (dw_6_12 _ _ 16 _ _ _ ns hL.out (by omega) (by omega) (HIV.out.below (by repeat (first | with_reducible exact Below.refl _ _ | with_reducible refine bel_then ?_ _ | with_reducible refine bel_grow ?_ _ | with_reducible refine bel_alloc ?_ _ | with_reducible refine bel_drew ?_ | with_reducible refine bel_set ?_ (by simp) _ | with_reducible refine bel_setRow ?_ (by first | omega | (simp; done)) _)))).mono ?_); rintro e _ ⟨⟨hw2, rfl⟩ | ⟨hw2, rfl⟩, x3, rfl⟩) | (go_at_call 43; (with_reducible refine (dw_12_14 _ _ 16 _ _ _ ns hL.out (by omega) (by omega) (HIV.out.below (by repeat (first | with_reducible exact Below.refl _ _ | with_reducible refine bel_then ?_ _ | with_reducible refine bel_grow ?_ _ | with_reducible refine bel_alloc ?_ _ | with_reducible refine bel_drew ?_ | with_reducible refine bel_set ?_ (by simp) _ | with_reducible refine bel_setRow ?_ (by first | omega | (simp; done)) _)))).mono ?_); rintro e _ ⟨⟨hw3, rfl⟩ | ⟨hw3, rfl⟩, x3, rfl⟩) | (go_at_call 43; (with_reducible refine (dw_14_15 _ _ 16 _ _ _ ns hL.out (by omega) (by omega) (HIV.out.below (by repeat (first | with_reducible exact Below.refl _ _ | with_reducible refine bel_then ?_ _ | with_reducible refine bel_grow ?_ _ | with_reducible refine bel_alloc ?_ _ | with_reducible refine bel_drew ?_ | with_reducible refine bel_set ?_ (by simp) _ | with_reducible refine bel_setRow ?_ (by first | omega | (simp; done)) _)))).mono ?_); rintro e _ ⟨⟨hw4, rfl⟩ | ⟨hw4, rfl⟩, x3, rfl⟩) | (go_at_call 43; (with_reducible refine (dw_15_16 _ _ 16 _ _ _ ns hL.out (by omega) (by omega) (HIV.out.below (by repeat (first | with_reducible exact Below.refl _ _ | with_reducible refine bel_then ?_ _ | with_reducible refine bel_grow ?_ _ | with_reducible refine bel_alloc ?_ _ | with_reducible refine bel_drew ?_ | with_reducible refine bel_set ?_ (by simp) _ | with_reducible refine bel_setRow ?_ (by first | omega | (simp; done)) _)))).mono ?_); rintro e _ ⟨⟨hw5, rfl⟩ | ⟨hw5, rfl⟩, x3, rfl⟩))
    rotate_left
    · have hl16 : ns.length = 16 := hL.out
      have HS := Lib.hid (show camF sc ws = .ok { sc with cam := some ns } by rw [HF.out, hN]; dsimp only; rw [if_neg (fun h => h hL.out), if_neg (by simp_all), hw1, hw2, hw3, hw4, hw5]; rfl)
      clear HF hw1 hw2 hw3 hw4 hw5 c24 z24
      obtain ⟨b2, rfl⟩ : ∃ b2, A2 = some ⟨b2, 0, none⟩ := by
        obtain ⟨bq, cq, eq, _⟩ := own_cap hown.out (by omega)
        injection eq with e1
        exact ⟨bq, e1⟩
      refine wp_letter (fun V2 hV2 => ?_)
      have GV : V.grownBy V2 (some g) := by
        rw [hV2]
        repeat (first | with_reducible exact World.grownBy.refl _ _ | with_reducible refine gb_grow ?_ _ | with_reducible refine gb_set ?_ _ _ | with_reducible refine gb_alloc ?_ _)
      have BV2 : Blk V2 g 61 ((rcells sc val).setIfInBounds 24 (.bool true)) := by
        rw [hV2]
        repeat (first | with_reducible exact HRV.out.blk | with_reducible refine Blk.grow ?_ _ | with_reducible refine Blk.alloc ?_ _ | with_reducible refine Blk.set ?_ _ _)
      clear hV2
      have GW : W.grownBy V2 (some g) := (gb_of_below hbV.out (some g)).trans GV
      have HI2 : IF V2 (some ⟨b2, 0, none⟩) ns := IF_but hown.out hL.out hgl GV
      obtain ⟨d12, d13, d14, d15, dbl⟩ := HI2.at16 hL.out
      obtain ⟨p12, hp12⟩ : ∃ p, p = ns.getD 12 0 := ⟨_, rfl⟩
      replace hp12 := Lib.hid hp12
      obtain ⟨p13, hp13⟩ : ∃ p, p = ns.getD 13 0 := ⟨_, rfl⟩
      replace hp13 := Lib.hid hp13
      obtain ⟨p14, hp14⟩ : ∃ p, p = ns.getD 14 0 := ⟨_, rfl⟩
      replace hp14 := Lib.hid hp14
      obtain ⟨p15, hp15⟩ : ∃ p, p = ns.getD 15 0 := ⟨_, rfl⟩
      replace hp15 := Lib.hid hp15
      obtain ⟨p0, hp0⟩ : ∃ p, p = ns.getD 0 0 := ⟨_, rfl⟩
      replace hp0 := Lib.hid hp0
      obtain ⟨p1, hp1⟩ : ∃ p, p = ns.getD 1 0 := ⟨_, rfl⟩
      replace hp1 := Lib.hid hp1
      obtain ⟨p2, hp2⟩ : ∃ p, p = ns.getD 2 0 := ⟨_, rfl⟩
      replace hp2 := Lib.hid hp2
      obtain ⟨p3, hp3⟩ : ∃ p, p = ns.getD 3 0 := ⟨_, rfl⟩
      replace hp3 := Lib.hid hp3
      obtain ⟨p4, hp4⟩ : ∃ p, p = ns.getD 4 0 := ⟨_, rfl⟩
      replace hp4 := Lib.hid hp4
      obtain ⟨p5, hp5⟩ : ∃ p, p = ns.getD 5 0 := ⟨_, rfl⟩
      replace hp5 := Lib.hid hp5
      obtain ⟨p6, hp6⟩ : ∃ p, p = ns.getD 6 0 := ⟨_, rfl⟩
      replace hp6 := Lib.hid hp6
      obtain ⟨p7, hp7⟩ : ∃ p, p = ns.getD 7 0 := ⟨_, rfl⟩
      replace hp7 := Lib.hid hp7
      obtain ⟨p8, hp8⟩ : ∃ p, p = ns.getD 8 0 := ⟨_, rfl⟩
      replace hp8 := Lib.hid hp8
      obtain ⟨p9, hp9⟩ : ∃ p, p = ns.getD 9 0 := ⟨_, rfl⟩
      replace hp9 := Lib.hid hp9
      obtain ⟨p10, hp10⟩ : ∃ p, p = ns.getD 10 0 := ⟨_, rfl⟩
      replace hp10 := Lib.hid hp10
      obtain ⟨p11, hp11⟩ : ∃ p, p = ns.getD 11 0 := ⟨_, rfl⟩
      replace hp11 := Lib.hid hp11
      rw [← hp12.out] at d12
      rw [← hp13.out] at d13
      rw [← hp14.out] at d14
      rw [← hp15.out] at d15
      have CP0 := Lib.hid (fun (x : More) => dpoint (grow V2 x) (some ⟨b2, 0, none⟩) 16 c2 0 0 ns rfl hL.out (by decide) (by decide) (HI2.below (bel_grow (Below.refl _ _) x)))
      rw [show 0 + 1 = 1 from rfl, show 0 + 2 = 2 from rfl, ← hp0.out, ← hp1.out, ← hp2.out] at CP0
      have CP3 := Lib.hid (fun (x : More) => dpoint (grow V2 x) (some ⟨b2, 0, none⟩) 16 c2 3 3 ns rfl hL.out (by decide) (by decide) (HI2.below (bel_grow (Below.refl _ _) x)))
      rw [show 3 + 1 = 4 from rfl, show 3 + 2 = 5 from rfl, ← hp3.out, ← hp4.out, ← hp5.out] at CP3
      have CP6 := Lib.hid (fun (x : More) => dpoint (grow V2 x) (some ⟨b2, 0, none⟩) 16 c2 6 6 ns rfl hL.out (by decide) (by decide) (HI2.below (bel_grow (Below.refl _ _) x)))
      rw [show 6 + 1 = 7 from rfl, show 6 + 2 = 8 from rfl, ← hp6.out, ← hp7.out, ← hp8.out] at CP6
      have CP9 := Lib.hid (fun (x : More) => dpoint (grow V2 x) (some ⟨b2, 0, none⟩) 16 c2 9 9 ns rfl hL.out (by decide) (by decide) (HI2.below (bel_grow (Below.refl _ _) x)))
      rw [show 9 + 1 = 10 from rfl, show 9 + 2 = 11 from rfl, ← hp9.out, ← hp10.out, ← hp11.out] at CP9
      have c0 : V2.cell? ⟨g, 0, none⟩ = some (.int .i64 ((camN sc).getD 0 0)) := BV2.cell 0
      have z0 := BV2.frozen 0
      have c1 : V2.cell? ⟨g, 1, none⟩ = some (.int .i64 ((camN sc).getD 1 0)) := BV2.cell 1
      have z1 := BV2.frozen 1
      have c2 : V2.cell? ⟨g, 2, none⟩ = some (.int .i64 ((camN sc).getD 2 0)) := BV2.cell 2
      have z2 := BV2.frozen 2
      have c3 : V2.cell? ⟨g, 3, none⟩ = some (.int .i64 ((camN sc).getD 3 0)) := BV2.cell 3
      have z3 := BV2.frozen 3
      have c4 : V2.cell? ⟨g, 4, none⟩ = some (.int .i64 ((camN sc).getD 4 0)) := BV2.cell 4
      have z4 := BV2.frozen 4
      have c5 : V2.cell? ⟨g, 5, none⟩ = some (.int .i64 ((camN sc).getD 5 0)) := BV2.cell 5
      have z5 := BV2.frozen 5
      have c6 : V2.cell? ⟨g, 6, none⟩ = some (.int .i64 ((camN sc).getD 6 0)) := BV2.cell 6
      have z6 := BV2.frozen 6
      have c7 : V2.cell? ⟨g, 7, none⟩ = some (.int .i64 ((camN sc).getD 7 0)) := BV2.cell 7
      have z7 := BV2.frozen 7
      have c8 : V2.cell? ⟨g, 8, none⟩ = some (.int .i64 ((camN sc).getD 8 0)) := BV2.cell 8
      have z8 := BV2.frozen 8
      have c9 : V2.cell? ⟨g, 9, none⟩ = some (.int .i64 ((camN sc).getD 9 0)) := BV2.cell 9
      have z9 := BV2.frozen 9
      have c10 : V2.cell? ⟨g, 10, none⟩ = some (.int .i64 ((camN sc).getD 10 0)) := BV2.cell 10
      have z10 := BV2.frozen 10
      have c11 : V2.cell? ⟨g, 11, none⟩ = some (.int .i64 ((camN sc).getD 11 0)) := BV2.cell 11
      have z11 := BV2.frozen 11
      have c12 : V2.cell? ⟨g, 12, none⟩ = some (.int .i64 ((camN sc).getD 12 0)) := BV2.cell 12
      have z12 := BV2.frozen 12
      have c13 : V2.cell? ⟨g, 13, none⟩ = some (.int .i64 ((camN sc).getD 13 0)) := BV2.cell 13
      have z13 := BV2.frozen 13
      have c14 : V2.cell? ⟨g, 14, none⟩ = some (.int .i64 ((camN sc).getD 14 0)) := BV2.cell 14
      have z14 := BV2.frozen 14
      have c15 : V2.cell? ⟨g, 15, none⟩ = some (.int .i64 ((camN sc).getD 15 0)) := BV2.cell 15
      have z15 := BV2.frozen 15
      have hV2l := BV2.lt
      replace BV2 := Lib.hid BV2
      clear HI2
      refine wp_region_tail 25 ?_ (by kernel_rfl) (by kernel_rfl) (by kernel_rfl) (fun x => ?_) (fun x => ?_)
      rotate_left
      · simp only [List.take_succ_cons, List.take_zero]
        repeat (go_big_quiet_step (((first | with_reducible exact qq1 (CP0.out _) | with_reducible exact qq2 (CP0.out _) | with_reducible exact qq1 (CP3.out _) | with_reducible exact qq2 (CP3.out _) | with_reducible exact qq1 (CP6.out _) | with_reducible exact qq2 (CP6.out _) | with_reducible exact qq1 (CP9.out _) | with_reducible exact qq2 (CP9.out _)))))
        refine wpQuiet_nil ?_
        exact rfl
      simp only [List.drop_succ_cons, List.drop_zero]
      try simp only [Act.put, List.setIfInBounds_toArray, List.set_cons_succ, List.set_cons_zero]
      go_wp2_with fail
      go_ret
      obtain ⟨q1, q2⟩ := cam_end HR.out GW BV2.out ns hp0.out hp1.out hp2.out hp3.out hp4.out hp5.out hp6.out hp7.out hp8.out hp9.out hp10.out hp11.out hp12.out hp13.out hp14.out hp15.out _
      exact readP_ok HS.out q1.1 q2
    all_goals go_ret
    all_goals first | exact readP_err 10 hgl (by repeat (first | with_reducible exact Below.refl _ _ | with_reducible refine bel_then ?_ _ | with_reducible refine bel_grow ?_ _ | with_reducible refine bel_alloc ?_ _ | with_reducible refine bel_drew ?_ | with_reducible refine bel_set ?_ (by simp) _ | with_reducible refine bel_setRow ?_ (by first | omega | (simp; done)) _)) (by rw [HF.out, hN]) | exact readP_err 12 hgl (bel_trans hbV.out (by repeat (first | with_reducible exact Below.refl _ _ | with_reducible refine bel_then ?_ _ | with_reducible refine bel_grow ?_ _ | with_reducible refine bel_alloc ?_ _ | with_reducible refine bel_drew ?_ | with_reducible refine bel_set ?_ (by simp) _ | with_reducible refine bel_setRow ?_ (by first | omega | (simp; done)) _))) (by rw [HF.out, hN]; dsimp only; rw [if_neg (fun h => h hL.out), if_pos (by simp_all)]) | exact readP_err 11 hgl (bel_trans hbV.out (by repeat (first | with_reducible exact Below.refl _ _ | with_reducible refine bel_then ?_ _ | with_reducible refine bel_grow ?_ _ | with_reducible refine bel_alloc ?_ _ | with_reducible refine bel_drew ?_ | with_reducible refine bel_set ?_ (by simp) _ | with_reducible refine bel_setRow ?_ (by first | omega | (simp; done)) _))) (by rw [HF.out, hN]; dsimp only; rw [if_neg (fun h => h hL.out), if_neg (by simp_all), if_neg (by first | (rw [hw1]; simp; done) | (rw [hw2]; simp; done) | (rw [hw3]; simp; done) | (rw [hw4]; simp; done) | (rw [hw5]; simp; done))])
  ·
    have e1 : ((n : Int) == 16) = false := (ne_len (m := 16) q).1
    have e2 : ¬ (n : Int) = 16 := (ne_len (m := 16) q).2
    go_enter Tryd.func22, Tryd.ntmps22
    go_wp2_with (go_at_call 42; (with_reducible refine (numbers_any _ _ _ n ws hn hl ?_).mono ?_); (first | exact hT | exact hT0 (by omega) _); rintro e V1 hp; rcases dnums_or hp hn with ⟨hN, rfl, x2, rfl⟩ | ⟨ns, A2, c2, hN, hL, rfl, hbV, hown⟩; rotate_left; (skip))
    all_goals go_ret
    all_goals first | exact readP_err 10 hgl hbV.out (by rw [HF.out, hN]; have := hL.out; simp; omega) | exact readP_err 10 hgl (by repeat (first | with_reducible exact Below.refl _ _ | with_reducible refine bel_then ?_ _ | with_reducible refine bel_grow ?_ _ | with_reducible refine bel_alloc ?_ _ | with_reducible refine bel_drew ?_ | with_reducible refine bel_set ?_ (by simp) _ | with_reducible refine bel_setRow ?_ (by first | omega | (simp; done)) _)) (by rw [HF.out, hN])

end Go.Proofs.YtehmlofhiffanaaDoor

/- The document's own Reader: places of names; the line of a texture. -/
namespace Go.Proofs.YtehmlofhiffanaaDoor
open Go.RowKit
set_option linter.unusedVariables false
set_option linter.unusedSimpArgs false
set_option linter.unnecessarySimpa false

theorem rep_tex {W : World} {base g : Nat} {TR : TypeId} {sc : Scn} {val : Key → Value} (h : RepV base W g TR sc val) (hn : sc.texs.length ≤ 1048576) (name : Wd) :
    Calls Tryd.prog 47 #[.pointer (some ⟨g, 0, none⟩), .string ⟨name.toArray⟩] W fun e w' => e = .returned (.int .i64 (placeI name (sc.texs.map (·.1)))) ∧ ∃ x, w' = grow W x := by
  obtain ⟨A1, a1, hv⟩ := own_form (show W.ownsRow base 67 4 (val .texs) sc.texs.length ((texSS sc val).flatMap fT) from h.own.row .texs)
  exact tex_core W g A1 sc.texs.length a1 (sc.texs.map (·.1)) name (by simp) hn (by rw [← hv]; exact h.blk.cell 21) (fun h0 => let ⟨b, off, e, hl, hc⟩ := h.ef_tex hv h0; ⟨b, off, e, hl, fun i hi => (hc i hi).1⟩) _ rfl
theorem rep_mat {W : World} {base g : Nat} {TR : TypeId} {sc : Scn} {val : Key → Value} (h : RepV base W g TR sc val) (hn : sc.mats.length ≤ 1048576) (name : Wd) :
    Calls Tryd.prog 48 #[.pointer (some ⟨g, 0, none⟩), .string ⟨name.toArray⟩] W fun e w' => e = .returned (.int .i64 (placeI name (sc.mats.map (·.1)))) ∧ ∃ x, w' = grow W x := by
  obtain ⟨A1, a1, hv⟩ := own_form (show W.ownsRow base 65 9 (val .mats) sc.mats.length (sc.mats.flatMap fM) from h.own.row .mats)
  exact mat_core W g A1 sc.mats.length a1 (sc.mats.map (·.1)) name (by simp) hn (by rw [← hv]; exact h.blk.cell 20) (fun h0 => let ⟨b, off, e, hl, hc⟩ := h.ef_mat hv h0; ⟨b, off, e, hl, fun i hi => (hc i hi).1⟩) _ rfl
theorem rep_cage {W : World} {base g : Nat} {TR : TypeId} {sc : Scn} {val : Key → Value} (h : RepV base W g TR sc val) (hn : sc.skins.length ≤ 1048576) (name : Wd) :
    Calls Tryd.prog 49 #[.pointer (some ⟨g, 0, none⟩), .string ⟨name.toArray⟩] W fun e w' => e = .returned (.int .i64 (placeI name (sc.skins.map (·.name)))) ∧ ∃ x, w' = grow W x := by
  obtain ⟨A1, a1, hv⟩ := own_form (show W.ownsRow base 42 6 (val .skins) sc.skins.length (sc.skins.flatMap fS) from h.own.row .skins)
  exact cage_core W g A1 sc.skins.length a1 (sc.skins.map (·.name)) name (by simp) hn (by rw [← hv]; exact h.blk.cell 22) (fun h0 => let ⟨b, off, e, hl, hc⟩ := h.ef_skin hv h0; ⟨b, off, e, hl, fun i hi => (hc i hi).1⟩) _ rfl
theorem dw_2_n (W : World) (A : Option Addr) (n c : Nat) (lo hi : Int) (ns : List Int) (hn : ns.length = n) (hn2 : n ≤ 1048576) (hb : 2 ≤ n) (hI : IF W A ns) :
    Calls Tryd.prog 43 #[.slice A n c, .int .i64 2, .int .i64 (n : Int), .int .i64 lo, .int .i64 hi] W fun e w' => ((wi ns 2 n lo hi = true ∧ e = .returned (.bool true)) ∨ (wi ns 2 n lo hi = false ∧ e = .returned (.bool false))) ∧ ∃ x, w' = grow W x :=
  dwithin W A n c 2 n 2 n lo hi ns rfl rfl hn hn2 hb (Nat.le_refl _) hI
theorem ro_drop {W : World} {base b n c : Nat} {ns : List Int} (h : W.ownsRow base 3 1 (.slice (some ⟨b, 0, none⟩) n c) n (i64s ns)) (hn : ns.length = n) (k : Nat) (hk : k < n) (n2 c2 : Nat) (e2 : n2 = n - k) : roRow W base 3 (.slice (some ⟨b, k, none⟩) n2 c2) n2 (i64s (ns.drop k)) := by
  subst e2
  refine ⟨by unfold i64s; simp [hn], .inr ?_⟩
  rcases h.2 with ⟨_, q⟩ | ⟨g, cap, cur, h1, h2, h3, _, _, _, h7⟩
  · omega
  · injection h1 with hA _ hc
    injection hA with hA
    injection hA with hA
    subst hA
    refine ⟨b, k, c2, cur, rfl, h2, h3, fun i hi => ?_⟩
    have hx : (i64s ns)[k + i]? = cur[k + i]? := by
      rw [← h7, List.getElem?_take, if_pos (by omega)]
      simp
    rw [← hx]
    unfold i64s
    simp
theorem SFW.at1 {W : World} {b off : Nat} {k name : Wd} {ws : List Wd} (h : SFW W (some ⟨b, off, none⟩) (k :: name :: ws)) : W.cell? ⟨b, off + 1, none⟩ = some (.string ⟨name.toArray⟩) ∧ b < W.heap.size := by
  obtain ⟨b2, off2, q, hb, hcc⟩ := h (by simp)
  cases q
  have := hcc 1 (by simp)
  exact ⟨by simpa using this, hb⟩
theorem IF.at01 {V : World} {b : Nat} {ns : List Int} {m : Nat} (h : IF V (some ⟨b, 0, none⟩) ns) (hl : ns.length = m) (h2 : 2 ≤ m) : V.cell? ⟨b, 0, none⟩ = some (.int .i64 (ns.getD 0 0)) ∧ V.cell? ⟨b, 1, none⟩ = some (.int .i64 (ns.getD 1 0)) := by
  obtain ⟨b2, off, e, hb, hc⟩ := h (by omega)
  cases e
  have h0 := hc 0 (by omega)
  have h1 := hc 1 (by omega)
  simp only [Nat.zero_add] at h0 h1
  exact ⟨h0, h1⟩
theorem placeI_yes {name : Wd} {l : List Wd} (h : 0 ≤ placeI name l) : (place name l).isSome = true := by
  unfold placeI at h
  cases e : place name l with
  | none => rw [e] at h; simp at h
  | some i => rfl
theorem placeI_no {name : Wd} {l : List Wd} (h : ¬ 0 ≤ placeI name l) : ¬ (place name l).isSome = true := by
  unfold placeI at h
  cases e : place name l with
  | none => simp
  | some i => rw [e] at h; exact absurd (by simp) h
def isNs (name : Wd) : Bool := nameB ⟨name.toArray⟩
theorem dName (name : Wd) (W : World) : Calls Tryd.prog 46 #[.string ⟨name.toArray⟩] W fun e w' => e = .returned (.bool (isN name)) ∧ ∃ x, w' = grow W x :=
  ((rName_any ⟨name.toArray⟩).at_ W).mono fun _ _ h => h

set_option maxRecDepth 100000 in
set_option maxHeartbeats 4000000 in
theorem dtex_short (W : World) (g n c b off : Nat) (sc : Scn) (val : Key → Value) (k : Wd) (ws : List Wd) (hn : ws.length = n) (hl : n ≤ 65537) (hc : n + 1 ≤ c) (h3 : n < 3) (hR : RepV g W g 61 sc val) :
    Calls Tryd.prog 25 #[.pointer (some ⟨g, 0, none⟩), .slice (some ⟨b, off, none⟩) (n + 1) c] W fun e W' => readP g 61 W (texF sc ws) e W' := by
  have hgl := hR.lt
  have HF := Lib.hid (texF_short sc ws (by omega))
  clear hR hn
  have h4 : (n : Int) + 1 < 4 := by omega
  go_enter Tryd.func25, Tryd.ntmps25
  go_wp2_with fail
  go_ret
  exact readP_err 10 hgl (by repeat (first | with_reducible exact Below.refl _ _ | with_reducible refine bel_then ?_ _ | with_reducible refine bel_grow ?_ _ | with_reducible refine bel_alloc ?_ _ | with_reducible refine bel_drew ?_ | with_reducible refine bel_set ?_ (by simp) _ | with_reducible refine bel_setRow ?_ (by first | omega | (simp; done)) _)) (by exact HF.out)
set_option maxRecDepth 100000 in
set_option maxHeartbeats 4000000 in
theorem dtex_go (W : World) (g m c b off : Nat) (sc : Scn) (val : Key → Value) (k name : Wd) (vs : List Wd) (hm : vs.length = m) (h2 : 2 ≤ m) (hl : m ≤ 65537) (hc : m + 2 ≤ c) (hA : SFW W (some ⟨b, off, none⟩) (k :: name :: vs)) (hR : RepV g W g 61 sc val) (hI : InvT sc) :
    Calls Tryd.prog 25 #[.pointer (some ⟨g, 0, none⟩), .slice (some ⟨b, off, none⟩) (m + 2) c] W fun e W' => readP g 61 W (texF sc (name :: vs)) e W' := by
  have hgl := hR.lt
  have HF := Lib.hid (texF_cons sc name vs)
  obtain ⟨hS, hbl⟩ := hA.at1
  have hT := Lib.hid hA.tail.tail
  have CN := Lib.hid (dName name)
  obtain ⟨A1, a1, hv⟩ := own_form (show W.ownsRow g 67 4 (val .texs) sc.texs.length ((texSS sc val).flatMap fT) from hR.own.row .texs)
  obtain ⟨i0, hi0, hz0, hz1, hz2⟩ := info_parts infoTx
  have HV := Lib.hid hv
  have HR := Lib.hid hR
  clear hR hv hA
  have n4 : ¬ (m : Int) + 2 < 4 := by omega
  have n2 : (2 : Int) ≤ (m : Int) + 2 := by omega
  have n1 : (1 : Int) < (m : Int) + 2 := by omega
  have c1 : (m : Int) + 2 ≤ (c : Int) := by omega
  have c2' : 2 < c := by omega
  cases hi : isN name
  · rw [hi] at CN
    go_enter Tryd.func25, Tryd.ntmps25
    go_wp2_with (go_at_call 46; (with_reducible refine (CN.out _).mono ?_); rintro e _ ⟨rfl, x7, rfl⟩)
    go_ret
    exact readP_err 10 hgl (by repeat (first | with_reducible exact Below.refl _ _ | with_reducible refine bel_then ?_ _ | with_reducible refine bel_grow ?_ _ | with_reducible refine bel_alloc ?_ _ | with_reducible refine bel_drew ?_ | with_reducible refine bel_set ?_ (by simp) _ | with_reducible refine bel_setRow ?_ (by first | omega | (simp; done)) _)) (by rw [HF.out, if_pos (.inr hi)])
  · rw [hi] at CN
    replace hi := Lib.hid hi
    cases hN : numsF vs with
    | none =>
      have CU := Lib.hid (fun (V : World) (hb : Below W.heap.size W V) => (numbers_any V (some ⟨b, off + 1 + 1, none⟩) (c - 2) m vs hm hl (hT.out.below hb)).mono (R' := fun e w' => Below V.heap.size V w' ∧ e = .returned (.tuple #[.slice none 0 0, .bool false])) (fun e w' hp => by rw [numsPost_none hN] at hp; exact hp))
      rw [show off + 1 + 1 = off + 2 from rfl] at CU
      replace hN := Lib.hid hN
      go_enter Tryd.func25, Tryd.ntmps25
      go_upto_region 4 with (first | (go_at_call 46; (with_reducible refine (CN.out _).mono ?_); rintro e _ ⟨rfl, x7, rfl⟩) | (go_at_call 42; (with_reducible refine (CU.out _ (by repeat (first | with_reducible exact Below.refl _ _ | with_reducible refine bel_then ?_ _ | with_reducible refine bel_grow ?_ _ | with_reducible refine bel_alloc ?_ _ | with_reducible refine bel_drew ?_ | with_reducible refine bel_set ?_ (by simp) _ | with_reducible refine bel_setRow ?_ (by first | omega | (simp; done)) _))).mono ?_); rintro e V1 ⟨hb1, rfl⟩; have hbV : Below W.heap.size W V1 := bel_trans (by repeat (first | with_reducible exact Below.refl _ _ | with_reducible refine bel_then ?_ _ | with_reducible refine bel_grow ?_ _ | with_reducible refine bel_alloc ?_ _ | with_reducible refine bel_drew ?_ | with_reducible refine bel_set ?_ (by simp) _ | with_reducible refine bel_setRow ?_ (by first | omega | (simp; done)) _)) hb1; replace hbV := Lib.hid hbV))
      refine wp_region_tail 14 ?_ (by kernel_rfl) (by kernel_rfl) (by kernel_rfl) (fun x => ?_) (fun x => ?_)
      rotate_left
      · simp only [List.take_succ_cons, List.take_zero]
        repeat (go_big_quiet_step ((fail)))
        refine wpQuiet_nil ?_
        exact rfl
      simp only [List.drop_succ_cons, List.drop_zero]
      try simp only [Act.put, List.setIfInBounds_toArray, List.set_cons_succ, List.set_cons_zero]
      go_wp2_with fail
      go_ret
      exact readP_err 10 hgl (bel_trans hbV.out (by repeat (first | with_reducible exact Below.refl _ _ | with_reducible refine bel_then ?_ _ | with_reducible refine bel_grow ?_ _ | with_reducible refine bel_alloc ?_ _ | with_reducible refine bel_drew ?_ | with_reducible refine bel_set ?_ (by simp) _ | with_reducible refine bel_setRow ?_ (by first | omega | (simp; done)) _))) (by rw [HF.out, if_neg (by rw [hi.out]; simp; omega), hN.out])
    | some ns =>
      have hLn : ns.length = m := (numsF_len _ _ hN).trans hm
      have hL := Lib.hid hLn
      have CU : ∀ V : World, Below W.heap.size W V → Calls Tryd.prog 42 #[.slice (some ⟨b, off + 2, none⟩) m (c - 2)] V fun e w' => Below V.heap.size V w' ∧ ∃ b2 c2, e = .returned (.tuple #[.slice (some ⟨b2, 0, none⟩) m c2, .bool true]) ∧ w'.ownsRow W.heap.size 3 1 (.slice (some ⟨b2, 0, none⟩) m c2) m (i64s ns) ∧ m ≤ c2 ∧ b2 < w'.heap.size := fun V hb => by
        refine (numbers_any V (some ⟨b, off + 1 + 1, none⟩) (c - 2) m vs hm hl (hT.out.below hb)).mono ?_
        rintro e w' hp
        rw [numsPost_some hN] at hp
        obtain ⟨hbw, v, rfl, ho⟩ := hp
        rw [hLn] at ho
        obtain ⟨b2, c2, rfl, hc2, hb2⟩ := own_cap ho (by omega)
        exact ⟨hbw, b2, c2, rfl, own_mono ho hb.size, hc2, hb2⟩
      replace CU := Lib.hid CU
      have bS := numsF_small _ _ hN
      have e0 : ns[0]'(by omega) = ns.getD 0 0 := by simp [List.getD, show 0 < ns.length by omega]
      have e1 : ns[1]'(by omega) = ns.getD 1 0 := by simp [List.getD, show 1 < ns.length by omega]
      have q0 := bS _ (List.getElem_mem (show 0 < ns.length by omega))
      have q1 := bS _ (List.getElem_mem (show 1 < ns.length by omega))
      rw [e0] at q0
      rw [e1] at q1
      have hmul : IntKind.i64.wrap (ns.getD 0 0 * ns.getD 1 0) = ns.getD 0 0 * ns.getD 1 0 := mul_small q0 q1
      have HF2 := Lib.hid (show texF sc (name :: vs) = if ns.getD 0 0 * ns.getD 1 0 ≠ (m : Int) - 2 then .error 10 else if 4 ≤ sc.texs.length then .error 13
        else if (place name (sc.texs.map (·.1))).isSome then .error 12
        else if (wi ns 0 2 1 16 && wi ns 2 m 0 255) then .ok { sc with texs := sc.texs ++ [(name, ns)] } else .error 11 by
        rw [HF.out, if_neg (by rw [hi.out]; simp; omega), hN]
        dsimp only
        rw [hLn])
      clear bS e0 e1 q0 q1 HF hN hLn
      go_enter Tryd.func25, Tryd.ntmps25
      go_upto_region 4 with (first | (go_at_call 46; (with_reducible refine (CN.out _).mono ?_); rintro e _ ⟨rfl, x7, rfl⟩) | (go_at_call 42; (with_reducible refine (CU.out _ (by repeat (first | with_reducible exact Below.refl _ _ | with_reducible refine bel_then ?_ _ | with_reducible refine bel_grow ?_ _ | with_reducible refine bel_alloc ?_ _ | with_reducible refine bel_drew ?_ | with_reducible refine bel_set ?_ (by simp) _ | with_reducible refine bel_setRow ?_ (by first | omega | (simp; done)) _))).mono ?_); rintro e V1 ⟨hb1, b2, c2, rfl, hown, hc2, hb2⟩; have hbV : Below W.heap.size W V1 := bel_trans (by repeat (first | with_reducible exact Below.refl _ _ | with_reducible refine bel_then ?_ _ | with_reducible refine bel_grow ?_ _ | with_reducible refine bel_alloc ?_ _ | with_reducible refine bel_drew ?_ | with_reducible refine bel_set ?_ (by simp) _ | with_reducible refine bel_setRow ?_ (by first | omega | (simp; done)) _)) hb1; replace hbV := Lib.hid hbV))
      have hbV1 := hbV.out
      have hIV1 : IF V1 (some ⟨b2, 0, none⟩) ns := IF_of_own hown hL.out
      obtain ⟨d0, d1⟩ := hIV1.at01 hL.out h2
      have HIV1 := Lib.hid hIV1
      have HOW1 := Lib.hid hown
      have c21 : V1.cell? ⟨g, 21, none⟩ = some (.slice A1 sc.texs.length a1) := by rw [← HV.out]; exact (HR.out.below hbV1).blk.cell 21
      obtain ⟨p0, hp0⟩ : ∃ p, p = ns.getD 0 0 := ⟨_, rfl⟩
      obtain ⟨p1, hp1⟩ : ∃ p, p = ns.getD 1 0 := ⟨_, rfl⟩
      rw [← hp0] at d0 hmul HF2
      rw [← hp1] at d1 hmul HF2
      replace hp0 := Lib.hid hp0
      replace hp1 := Lib.hid hp1
      have m2 : IntKind.i64.wrap ((m : Int) - 2) = (m : Int) - 2 := IntWalk.i64_in _ (by omega)
      have mz : (0 : Int) < (m : Int) := by omega
      have m1 : (1 : Int) < (m : Int) := by omega
      have hgV : g < V1.heap.size := (HR.out.below hbV1).lt
      have hV1 := Lib.hid hbV1
      clear hbV1 hIV1 hown CN CU hb1
      by_cases hP : p0 * p1 = (m : Int) - 2
      rotate_left
      · have hPb : (p0 * p1 != (m : Int) - 2) = true := by simpa using hP
        replace hP := Lib.hid hP
        refine wp_region_tail 14 ?_ (by kernel_rfl) (by kernel_rfl) (by kernel_rfl) (fun x => ?_) (fun x => ?_)
        rotate_left
        · simp only [List.take_succ_cons, List.take_zero]
          repeat (go_big_quiet_step ((fail)))
          refine wpQuiet_nil ?_
          exact rfl
        simp only [List.drop_succ_cons, List.drop_zero]
        try simp only [Act.put, List.setIfInBounds_toArray, List.set_cons_succ, List.set_cons_zero]
        go_wp2_with fail
        go_ret
        exact readP_err 10 hgl (bel_trans hV1.out (by repeat (first | with_reducible exact Below.refl _ _ | with_reducible refine bel_then ?_ _ | with_reducible refine bel_grow ?_ _ | with_reducible refine bel_alloc ?_ _ | with_reducible refine bel_drew ?_ | with_reducible refine bel_set ?_ (by simp) _ | with_reducible refine bel_setRow ?_ (by first | omega | (simp; done)) _))) (by rw [HF2.out, if_pos hP.out])
      have hPb : (p0 * p1 != (m : Int) - 2) = false := by simpa using hP
      replace hP := Lib.hid hP
      refine wp_region_tail 14 ?_ (by kernel_rfl) (by kernel_rfl) (by kernel_rfl) (fun x => ?_) (fun x => ?_)
      rotate_left
      · simp only [List.take_succ_cons, List.take_zero]
        repeat (go_big_quiet_step ((fail)))
        refine wpQuiet_nil ?_
        exact rfl
      simp only [List.drop_succ_cons, List.drop_zero]
      try simp only [Act.put, List.setIfInBounds_toArray, List.set_cons_succ, List.set_cons_zero]
      have CT := Lib.hid (fun (V : World) (hb : Below W.heap.size W V) => rep_tex (HR.out.below hb) (by have := hI.2.2; omega) name)
      have hIV := HIV1.out
      have cS : V1.cell? ⟨b, off + 1, none⟩ = some (.string ⟨name.toArray⟩) := (hV1.out.cell (p := ⟨b, off + 1, none⟩) hbl).trans hS
      have hbl1 : b < V1.heap.size := Nat.lt_of_lt_of_le hbl hV1.out.size
      clear d0 d1 hmul
      go_wp2_with (first | (go_at_call 47; (with_reducible refine (CT.out _ (bel_trans hV1.out (by repeat (first | with_reducible exact Below.refl _ _ | with_reducible refine bel_then ?_ _ | with_reducible refine bel_grow ?_ _ | with_reducible refine bel_alloc ?_ _ | with_reducible refine bel_drew ?_ | with_reducible refine bel_set ?_ (by simp) _ | with_reducible refine bel_setRow ?_ (by first | omega | (simp; done)) _)))).mono ?_); rintro e _ ⟨rfl, x8, rfl⟩) | (go_at_call 43; (with_reducible refine (dw_0_2 _ _ m _ _ _ ns hL.out (by omega) (by omega) (hIV.below (by repeat (first | with_reducible exact Below.refl _ _ | with_reducible refine bel_then ?_ _ | with_reducible refine bel_grow ?_ _ | with_reducible refine bel_alloc ?_ _ | with_reducible refine bel_drew ?_ | with_reducible refine bel_set ?_ (by simp) _ | with_reducible refine bel_setRow ?_ (by first | omega | (simp; done)) _)))).mono ?_); rintro e _ ⟨⟨hw1, rfl⟩ | ⟨hw1, rfl⟩, x3, rfl⟩) | (go_at_call 43; (with_reducible refine (dw_2_n _ _ m _ _ _ ns hL.out (by omega) (by omega) (hIV.below (by repeat (first | with_reducible exact Below.refl _ _ | with_reducible refine bel_then ?_ _ | with_reducible refine bel_grow ?_ _ | with_reducible refine bel_alloc ?_ _ | with_reducible refine bel_drew ?_ | with_reducible refine bel_set ?_ (by simp) _ | with_reducible refine bel_setRow ?_ (by first | omega | (simp; done)) _)))).mono ?_); rintro e _ ⟨⟨hw2, rfl⟩ | ⟨hw2, rfl⟩, x3, rfl⟩))
      all_goals first | (go_ret; first | exact readP_err 13 hgl (bel_trans hV1.out (by repeat (first | with_reducible exact Below.refl _ _ | with_reducible refine bel_then ?_ _ | with_reducible refine bel_grow ?_ _ | with_reducible refine bel_alloc ?_ _ | with_reducible refine bel_drew ?_ | with_reducible refine bel_set ?_ (by simp) _ | with_reducible refine bel_setRow ?_ (by first | omega | (simp; done)) _))) (by rw [HF2.out, if_neg (fun h => h hP.out), if_pos (by omega)]) | exact readP_err 12 hgl (bel_trans hV1.out (by repeat (first | with_reducible exact Below.refl _ _ | with_reducible refine bel_then ?_ _ | with_reducible refine bel_grow ?_ _ | with_reducible refine bel_alloc ?_ _ | with_reducible refine bel_drew ?_ | with_reducible refine bel_set ?_ (by simp) _ | with_reducible refine bel_setRow ?_ (by first | omega | (simp; done)) _))) (by rw [HF2.out, if_neg (fun h => h hP.out), if_neg (by omega), if_pos (placeI_yes (by omega))]) | exact readP_err 11 hgl (bel_trans hV1.out (by repeat (first | with_reducible exact Below.refl _ _ | with_reducible refine bel_then ?_ _ | with_reducible refine bel_grow ?_ _ | with_reducible refine bel_alloc ?_ _ | with_reducible refine bel_drew ?_ | with_reducible refine bel_set ?_ (by simp) _ | with_reducible refine bel_setRow ?_ (by first | omega | (simp; done)) _))) (by rw [HF2.out, if_neg (fun h => h hP.out), if_neg (by omega), if_neg (placeI_no (by omega)), if_neg (by first | (rw [hw1]; simp; done) | (rw [hw2]; simp; done))])) | skip
      have b0 := wi_at hw1 0 (by omega) (by omega) (by have := hL.out; omega)
      have b1 := wi_at hw1 1 (by omega) (by omega) (by have := hL.out; omega)
      rw [← hp0.out] at b0
      rw [← hp1.out] at b1
      have m3 : 3 ≤ m := by
        have h1 : 0 < p0 * p1 := Int.mul_pos (by omega) (by omega)
        have h2 := hP.out
        omega
      have HS := Lib.hid (show texF sc (name :: vs) = .ok { sc with texs := sc.texs ++ [(name, ns)] } by
        rw [HF2.out, if_neg (fun h => h hP.out), if_neg (by omega), if_neg (placeI_no (by omega)), hw1, hw2]; rfl)
      clear HF2 hw1 hw2 b0 b1 CT hPb m2 c21 cS
      refine wp_letter (fun V hVe => ?_)
      have hBV : Below V1.heap.size V1 V := by rw [hVe]; (repeat (first | with_reducible exact Below.refl _ _ | with_reducible refine bel_then ?_ _ | with_reducible refine bel_grow ?_ _ | with_reducible refine bel_alloc ?_ _ | with_reducible refine bel_drew ?_ | with_reducible refine bel_set ?_ (by simp) _ | with_reducible refine bel_setRow ?_ (by first | omega | (simp; done)) _))
      clear hVe
      have hB1 : Below W.heap.size W V := bel_trans hV1.out hBV
      have HRW := HR.out.below hB1
      have hIV' : IF V (some ⟨b2, 0, none⟩) ns := hIV.below hBV
      obtain ⟨d0, d1⟩ := hIV'.at01 hL.out h2
      rw [← hp0.out] at d0
      rw [← hp1.out] at d1
      have c21 : V.cell? ⟨g, 21, none⟩ = some (.slice A1 sc.texs.length a1) := by rw [← HV.out]; exact HRW.blk.cell 21
      have z21 := HRW.blk.frozen 21
      have cS : V.cell? ⟨b, off + 1, none⟩ = some (.string ⟨name.toArray⟩) := (hB1.cell (p := ⟨b, off + 1, none⟩) hbl).trans hS
      have hVl := HRW.lt
      have hblV : b < V.heap.size := Nat.lt_of_lt_of_le hbl hB1.size
      have OW : ∀ x, (grow V x).ownsRow g 67 4 (.slice A1 sc.texs.length a1) sc.texs.length ((texSS sc val).flatMap fT) := by
        intro x; rw [← HV.out]; exact (HRW.grow x).own.row .texs
      have TROW := Lib.hid (show ∀ W1, Below V.heap.size V W1 → roRow W1 W.heap.size 3 (.slice (some ⟨b2, 2, none⟩) (m - 2) (c2 - 2)) (ns.drop 2).length (i64s (ns.drop 2)) from fun W1 hb => by
        rw [show (ns.drop 2).length = m - 2 by rw [List.length_drop, hL.out]]
        exact ro_drop (own_below (own_below HOW1.out hBV) hb) hL.out 2 (by omega) (m - 2) (c2 - 2) rfl)
      replace OW := Lib.hid OW
      have HRV := Lib.hid HRW
      have HNS := Lib.hid (show fT ((name, ns), .slice (some ⟨b2, 2, none⟩) (m - 2) (c2 - 2)) = [.string ⟨name.toArray⟩, .int .i64 p0, .int .i64 p1, .slice (some ⟨b2, 2, none⟩) (m - 2) (c2 - 2)] by rw [hp0.out, hp1.out]; rfl)
      replace hB1 := Lib.hid hB1
      have mc : (m : Int) ≤ (c2 : Int) := by omega
      have cc : 2 < c2 := by omega
      have cc2 : (2 : Int) ≤ (c2 : Int) := by omega
      have mm : (2 : Int) ≤ (m : Int) := by omega
      have hbV2 : b2 < V.heap.size := Nat.lt_of_lt_of_le hb2 hBV.size
      clear hIV' HRW hIV hBV hbV HIV1 HOW1 hp0 hp1 hP hV1 hc2 hbl1
      refine wp_region_makeS_ 18 ?_ (.pointer (some ⟨g, 0, none⟩)) 79 (.cells #[.string ⟨name.toArray⟩, .int .i64 p0, .int .i64 p1, .slice (some ⟨b2, 2, none⟩) (m - 2) (c2 - 2)] 67) (by kernel_rfl) (by kernel_rfl) (by kernel_rfl) rfl rfl rfl (fun _ _ _ h => h) ?_ (fun x => ?_) (fun x y => ?_)
      rotate_left 2
      · simp only [List.take_succ_cons, List.take_zero, List.tail_cons, Act.put, List.setIfInBounds_toArray, List.set_cons_succ, List.set_cons_zero]
        repeat (go_big_quiet_step ((fail)))
        refine wpQuiet_nil ?_
        exact rfl
      rotate_left
      · exact ⟨_, rfl, rfl, rfl, fun u => by simp [execOp, go_sem]⟩
      simp only [List.drop_succ_cons, List.drop_zero]
      try simp only [Act.put, List.setIfInBounds_toArray, List.set_cons_succ, List.set_cons_zero]
      go_wp2_with (at_builtin; go_loud (refine wpList_append_own_at _ rfl _ _ 31 rfl g 67 i0 _ 4 56 Tryd.underlying31 hi0 hz0 hz1 hz2 rfl (by decide) _ _ _ rfl (own_grow ((OW.out _).alloc _) _) ⟨_, 0, none⟩ 1 1 [.string ⟨name.toArray⟩, .int .i64 p0, .int .i64 p1, .slice (some ⟨b2, 2, none⟩) (m - 2) (c2 - 2)] rfl rfl (cell_newG _ [.string ⟨name.toArray⟩, .int .i64 p0, .int .i64 p1, .slice (some ⟨b2, 2, none⟩) (m - 2) (c2 - 2)] _ _) (fun u hu => by simp at hu; rcases hu with rfl | rfl | rfl | rfl <;> rfl) (by unfold maxLen; omega) (by omega) (Nat.le_trans (Nat.le_of_lt hVl) (@Below.size V.heap.size V _ (by repeat (first | with_reducible exact Below.refl _ _ | with_reducible refine bel_then ?_ _ | with_reducible refine bel_grow ?_ _ | with_reducible refine bel_alloc ?_ _ | with_reducible refine bel_drew ?_ | with_reducible refine bel_set ?_ (by simp) _ | with_reducible refine bel_setRow ?_ (by first | omega | (simp; done)) _)))) ?_); intro v4 w4 hown4 hgr4 hnil4 hat4; clear hnil4; obtain ⟨A4, a4, rfl⟩ := own_form hown4; go_loud (obtain ⟨B4, R4⟩ := HR.out.texsP HV.out (name, ns) (.slice (some ⟨b2, 2, none⟩) (m - 2) (c2 - 2)) _ HNS.out hgr4 hown4 hat4 (bel_trans hB1.out (by repeat (first | with_reducible exact Below.refl _ _ | with_reducible refine bel_then ?_ _ | with_reducible refine bel_grow ?_ _ | with_reducible refine bel_alloc ?_ _ | with_reducible refine bel_drew ?_ | with_reducible refine bel_set ?_ (by simp) _ | with_reducible refine bel_setRow ?_ (by first | omega | (simp; done)) _))) (TROW.out _ (by repeat (first | with_reducible exact Below.refl _ _ | with_reducible refine bel_then ?_ _ | with_reducible refine bel_grow ?_ _ | with_reducible refine bel_alloc ?_ _ | with_reducible refine bel_drew ?_ | with_reducible refine bel_set ?_ (by simp) _ | with_reducible refine bel_setRow ?_ (by first | omega | (simp; done)) _))); have hB4 := fr_app (TR := 61) hB1.out hgl hgr4 (own_typed (OW.out More.none_)) (by decide) (Nat.le_refl _) HRV.out.blk (fun h => h) 21 (.slice A4 (sc.texs.length + 1) a4) (by repeat (first | with_reducible exact Below.refl _ _ | with_reducible refine bel_then ?_ _ | with_reducible refine bel_grow ?_ _ | with_reducible refine bel_alloc ?_ _ | with_reducible refine bel_drew ?_ | with_reducible refine bel_set ?_ (by simp) _ | with_reducible refine bel_setRow ?_ (by first | omega | (simp; done)) _)); have c4 : w4.cell? ⟨g, 21, none⟩ = some (val .texs) := B4.cell 21; have z4 := B4.frozen 21; replace R4 := Lib.hid R4; replace hB4 := Lib.hid hB4; clear hgr4 hown4 hat4))
      go_ret
      exact readP_ok HS.out hB4.out.1 R4.out

end Go.Proofs.YtehmlofhiffanaaDoor

/- The document's own Reader: the line of a material. -/
namespace Go.Proofs.YtehmlofhiffanaaDoor
open Go.RowKit
set_option linter.unusedVariables false
set_option linter.unusedSimpArgs false
set_option linter.unnecessarySimpa false

theorem dwr (W : World) (A : Option Addr) (n c a b : Nat) (ai bi lo hi : Int) (ns : List Int) (r : Bool) (ha : ai = (a : Int)) (hbi : bi = (b : Int)) (hr : wi ns a b lo hi = r) (hn : ns.length = n) (hn2 : n ≤ 1048576) (hab : a ≤ b) (hb : b ≤ n) (hI : IF W A ns) :
    Calls Tryd.prog 43 #[.slice A n c, .int .i64 ai, .int .i64 bi, .int .i64 lo, .int .i64 hi] W fun e w' => e = .returned (.bool r) ∧ ∃ x, w' = grow W x := by
  subst ha hbi hr
  exact within_any W A n c a b lo hi ns hn hn2 hab hb hI
theorem IF.atk {V : World} {b : Nat} {ns : List Int} {m : Nat} (h : IF V (some ⟨b, 0, none⟩) ns) (hl : ns.length = m) (i : Nat) (hi : i < m) : V.cell? ⟨b, i, none⟩ = some (.int .i64 (ns.getD i 0)) := by
  obtain ⟨b2, off, e, hb, hc⟩ := h (by omega)
  cases e
  have h0 := hc i (by omega)
  rwa [Nat.zero_add] at h0
theorem matF_len (sc : Scn) (ws : List Wd) (h : ws.length ≠ 9) : matF sc ws = .error 10 := by
  cases ws with
  | nil => rfl
  | cons name vs => rw [matF_cons, if_pos (.inl (by simp at h; omega))]
theorem small_at {vs : List Wd} {ns : List Int} (h : numsF vs = some ns) (i : Nat) (hi : i < ns.length) : -999999 ≤ ns.getD i 0 ∧ ns.getD i 0 ≤ 999999 := by
  have e : ns.getD i 0 = ns[i] := by simp [List.getD, hi]
  rw [e]
  exact numsF_small _ _ h _ (List.getElem_mem hi)
set_option maxRecDepth 100000 in
set_option maxHeartbeats 4000000 in
theorem dmat_len (W : World) (g n c b off : Nat) (sc : Scn) (val : Key → Value) (k : Wd) (ws : List Wd) (hn : ws.length = n) (hl : n ≤ 65537) (hc : n + 1 ≤ c) (h9 : ¬ n = 9) (hR : RepV g W g 61 sc val) :
    Calls Tryd.prog 26 #[.pointer (some ⟨g, 0, none⟩), .slice (some ⟨b, off, none⟩) (n + 1) c] W fun e W' => readP g 61 W (matF sc ws) e W' := by
  have hgl := hR.lt
  have HF := Lib.hid (matF_len sc ws (by omega))
  clear hR hn
  have e1 : ((n : Int) + 1 == 10) = false := by rw [beq_eq_false_iff_ne]; omega
  have e2 : ((n : Int) + 1 != 10) = true := by rw [bne_iff_ne]; omega
  have e3 : ¬ (n : Int) + 1 = 10 := by omega
  have e4 : ¬ (n : Int) = 9 := by omega
  go_enter Tryd.func26, Tryd.ntmps26
  go_wp2_with fail
  all_goals go_ret
  all_goals exact readP_err 10 hgl (by repeat (first | with_reducible exact Below.refl _ _ | with_reducible refine bel_then ?_ _ | with_reducible refine bel_grow ?_ _ | with_reducible refine bel_alloc ?_ _ | with_reducible refine bel_drew ?_ | with_reducible refine bel_set ?_ (by simp) _ | with_reducible refine bel_setRow ?_ (by first | omega | (simp; done)) _)) (by exact HF.out)

set_option maxRecDepth 100000 in
set_option maxHeartbeats 8000000 in
theorem dmat_go (W : World) (g c b off : Nat) (sc : Scn) (val : Key → Value) (k name : Wd) (vs : List Wd) (hm : vs.length = 8) (hc : 10 ≤ c) (hA : SFW W (some ⟨b, off, none⟩) (k :: name :: vs)) (hR : RepV g W g 61 sc val) (hI : InvT sc) :
    Calls Tryd.prog 26 #[.pointer (some ⟨g, 0, none⟩), .slice (some ⟨b, off, none⟩) 10 c] W fun e W' => readP g 61 W (matF sc (name :: vs)) e W' := by
  have hgl := hR.lt
  have HF := Lib.hid (matF_cons sc name vs)
  obtain ⟨hS, hbl⟩ := hA.at1
  have hT := Lib.hid hA.tail.tail
  have CN := Lib.hid (dName name)
  obtain ⟨A1, a1, hv⟩ := own_form (show W.ownsRow g 65 9 (val .mats) sc.mats.length (sc.mats.flatMap fM) from hR.own.row .mats)
  obtain ⟨i0, hi0, hz0, hz1, hz2⟩ := info_parts infoMt
  have HV := Lib.hid hv
  have HR := Lib.hid hR
  clear hR hv hA
  have c1 : (10 : Int) ≤ (c : Int) := by omega
  have c2' : 2 < c := by omega
  cases hi : isN name
  · rw [hi] at CN
    go_enter Tryd.func26, Tryd.ntmps26
    go_wp2_with (go_at_call 46; (with_reducible refine (CN.out _).mono ?_); rintro e _ ⟨rfl, x7, rfl⟩)
    go_ret
    exact readP_err 10 hgl (by repeat (first | with_reducible exact Below.refl _ _ | with_reducible refine bel_then ?_ _ | with_reducible refine bel_grow ?_ _ | with_reducible refine bel_alloc ?_ _ | with_reducible refine bel_drew ?_ | with_reducible refine bel_set ?_ (by simp) _ | with_reducible refine bel_setRow ?_ (by first | omega | (simp; done)) _)) (by rw [HF.out, if_pos (.inr hi)])
  · rw [hi] at CN
    replace hi := Lib.hid hi
    cases hN : numsF vs with
    | none =>
      have CU := Lib.hid (fun (V : World) (hb : Below W.heap.size W V) => (numbers_any V (some ⟨b, off + 1 + 1, none⟩) (c - 2) 8 vs hm (by decide) (hT.out.below hb)).mono (R' := fun e w' => Below V.heap.size V w' ∧ e = .returned (.tuple #[.slice none 0 0, .bool false])) (fun e w' hp => by rw [numsPost_none hN] at hp; exact hp))
      rw [show off + 1 + 1 = off + 2 from rfl] at CU
      replace hN := Lib.hid hN
      go_enter Tryd.func26, Tryd.ntmps26
      go_wp2_with (first | (go_at_call 46; (with_reducible refine (CN.out _).mono ?_); rintro e _ ⟨rfl, x7, rfl⟩) | (go_at_call 42; (with_reducible refine (CU.out _ (by repeat (first | with_reducible exact Below.refl _ _ | with_reducible refine bel_then ?_ _ | with_reducible refine bel_grow ?_ _ | with_reducible refine bel_alloc ?_ _ | with_reducible refine bel_drew ?_ | with_reducible refine bel_set ?_ (by simp) _ | with_reducible refine bel_setRow ?_ (by first | omega | (simp; done)) _))).mono ?_); rintro e V1 ⟨hb1, rfl⟩; have hbV : Below W.heap.size W V1 := bel_trans (by repeat (first | with_reducible exact Below.refl _ _ | with_reducible refine bel_then ?_ _ | with_reducible refine bel_grow ?_ _ | with_reducible refine bel_alloc ?_ _ | with_reducible refine bel_drew ?_ | with_reducible refine bel_set ?_ (by simp) _ | with_reducible refine bel_setRow ?_ (by first | omega | (simp; done)) _)) hb1; replace hbV := Lib.hid hbV))
      go_ret
      exact readP_err 10 hgl (bel_trans hbV.out (by repeat (first | with_reducible exact Below.refl _ _ | with_reducible refine bel_then ?_ _ | with_reducible refine bel_grow ?_ _ | with_reducible refine bel_alloc ?_ _ | with_reducible refine bel_drew ?_ | with_reducible refine bel_set ?_ (by simp) _ | with_reducible refine bel_setRow ?_ (by first | omega | (simp; done)) _))) (by rw [HF.out, if_neg (by rw [hi.out]; simp; omega), hN.out])
    | some ns =>
      have hLn : ns.length = 8 := (numsF_len _ _ hN).trans hm
      have hL := Lib.hid hLn
      have CU : ∀ V : World, Below W.heap.size W V → Calls Tryd.prog 42 #[.slice (some ⟨b, off + 2, none⟩) 8 (c - 2)] V fun e w' => Below V.heap.size V w' ∧ ∃ b2 c2, e = .returned (.tuple #[.slice (some ⟨b2, 0, none⟩) 8 c2, .bool true]) ∧ w'.ownsRow W.heap.size 3 1 (.slice (some ⟨b2, 0, none⟩) 8 c2) 8 (i64s ns) ∧ 8 ≤ c2 ∧ b2 < w'.heap.size := fun V hb => by
        refine (numbers_any V (some ⟨b, off + 1 + 1, none⟩) (c - 2) 8 vs hm (by decide) (hT.out.below hb)).mono ?_
        rintro e w' hp
        rw [numsPost_some hN] at hp
        obtain ⟨hbw, v, rfl, ho⟩ := hp
        rw [hLn] at ho
        obtain ⟨b2, c2, rfl, hc2, hb2⟩ := own_cap ho (by omega)
        exact ⟨hbw, b2, c2, rfl, own_mono ho hb.size, hc2, hb2⟩
      replace CU := Lib.hid CU
      have q5' := small_at hN 5 (by omega)
      have q6' := small_at hN 6 (by omega)
      have hsum : IntKind.i64.wrap (ns.getD 5 0 + ns.getD 6 0) = ns.getD 5 0 + ns.getD 6 0 := IntWalk.i64_in _ (by omega)
      have HF1 := Lib.hid (show matF sc (name :: vs) = if 8 ≤ sc.mats.length then .error 13
        else if (place name (sc.mats.map (·.1))).isSome then .error 12
        else if (wi ns 0 3 0 255 && wi ns 3 4 0 256 && wi ns 4 5 1 64 && wi ns 5 7 0 256 && decide (ns.getD 5 0 + ns.getD 6 0 ≤ 256) && wi ns 7 8 64 1024) then .ok { sc with mats := sc.mats ++ [(name, ns)] } else .error 11 by
        rw [HF.out, if_neg (by rw [hi.out]; simp; omega), hN])
      clear q5' q6' HF hN hLn
      replace hsum := Lib.hid hsum
      go_enter Tryd.func26, Tryd.ntmps26
      go_upto_region 10 with (first | (go_at_call 46; (with_reducible refine (CN.out _).mono ?_); rintro e _ ⟨rfl, x7, rfl⟩) | (go_at_call 42; (with_reducible refine (CU.out _ (by repeat (first | with_reducible exact Below.refl _ _ | with_reducible refine bel_then ?_ _ | with_reducible refine bel_grow ?_ _ | with_reducible refine bel_alloc ?_ _ | with_reducible refine bel_drew ?_ | with_reducible refine bel_set ?_ (by simp) _ | with_reducible refine bel_setRow ?_ (by first | omega | (simp; done)) _))).mono ?_); rintro e V1 ⟨hb1, b2, c2, rfl, hown, hc2, hb2⟩; have hbV : Below W.heap.size W V1 := bel_trans (by repeat (first | with_reducible exact Below.refl _ _ | with_reducible refine bel_then ?_ _ | with_reducible refine bel_grow ?_ _ | with_reducible refine bel_alloc ?_ _ | with_reducible refine bel_drew ?_ | with_reducible refine bel_set ?_ (by simp) _ | with_reducible refine bel_setRow ?_ (by first | omega | (simp; done)) _)) hb1; have c20 : V1.cell? ⟨g, 20, none⟩ = some (.slice A1 sc.mats.length a1) := (by rw [← HV.out]; exact (HR.out.below hbV).blk.cell 20); have cS1 : V1.cell? ⟨b, off + 1, none⟩ = some (.string ⟨name.toArray⟩) := (hbV.cell (p := ⟨b, off + 1, none⟩) hbl).trans hS; have hbl1 : b < V1.heap.size := Nat.lt_of_lt_of_le hbl hbV.size; have hgV : g < V1.heap.size := (HR.out.below hbV).lt; have CT := Lib.hid (fun (V : World) (hb : Below V1.heap.size V1 V) => rep_mat ((HR.out.below hbV).below hb) (by have := hI.2.1; omega) name); replace hbV := Lib.hid hbV; replace hown := Lib.hid hown) | (go_at_call 48; (with_reducible refine (CT.out _ (by repeat (first | with_reducible exact Below.refl _ _ | with_reducible refine bel_then ?_ _ | with_reducible refine bel_grow ?_ _ | with_reducible refine bel_alloc ?_ _ | with_reducible refine bel_drew ?_ | with_reducible refine bel_set ?_ (by simp) _ | with_reducible refine bel_setRow ?_ (by first | omega | (simp; done)) _))).mono ?_); rintro e _ ⟨rfl, x8, rfl⟩))
      all_goals first | (go_ret; first | exact readP_err 13 hgl (bel_trans hbV.out (by repeat (first | with_reducible exact Below.refl _ _ | with_reducible refine bel_then ?_ _ | with_reducible refine bel_grow ?_ _ | with_reducible refine bel_alloc ?_ _ | with_reducible refine bel_drew ?_ | with_reducible refine bel_set ?_ (by simp) _ | with_reducible refine bel_setRow ?_ (by first | omega | (simp; done)) _))) (by rw [HF1.out, if_pos (by omega)]) | exact readP_err 12 hgl (bel_trans hbV.out (by repeat (first | with_reducible exact Below.refl _ _ | with_reducible refine bel_then ?_ _ | with_reducible refine bel_grow ?_ _ | with_reducible refine bel_alloc ?_ _ | with_reducible refine bel_drew ?_ | with_reducible refine bel_set ?_ (by simp) _ | with_reducible refine bel_setRow ?_ (by first | omega | (simp; done)) _))) (by rw [HF1.out, if_neg (by omega), if_pos (placeI_yes (by omega))])) | skip
      have HF2 := Lib.hid (show matF sc (name :: vs) = if (wi ns 0 3 0 255 && wi ns 3 4 0 256 && wi ns 4 5 1 64 && wi ns 5 7 0 256 && decide (ns.getD 5 0 + ns.getD 6 0 ≤ 256) && wi ns 7 8 64 1024) then .ok { sc with mats := sc.mats ++ [(name, ns)] } else .error 11 by
        rw [HF1.out, if_neg (by omega), if_neg (placeI_no (by omega))])
      have hlim : ¬ 8 ≤ sc.mats.length := by omega
      clear HF1 CT CN CU c20 cS1
      refine wp_letter (fun V hVe => ?_)
      have hBV : Below V1.heap.size V1 V := by rw [hVe]; (repeat (first | with_reducible exact Below.refl _ _ | with_reducible refine bel_then ?_ _ | with_reducible refine bel_grow ?_ _ | with_reducible refine bel_alloc ?_ _ | with_reducible refine bel_drew ?_ | with_reducible refine bel_set ?_ (by simp) _ | with_reducible refine bel_setRow ?_ (by first | omega | (simp; done)) _))
      clear hVe
      have hB1 : Below W.heap.size W V := bel_trans hbV.out hBV
      have HRW := HR.out.below hB1
      have hIV : IF V (some ⟨b2, 0, none⟩) ns := (IF_of_own hown.out hL.out).below hBV
      obtain ⟨p0, hp0⟩ : ∃ p, p = ns.getD 0 0 := ⟨_, rfl⟩
      replace hp0 := Lib.hid hp0
      obtain ⟨p1, hp1⟩ : ∃ p, p = ns.getD 1 0 := ⟨_, rfl⟩
      replace hp1 := Lib.hid hp1
      obtain ⟨p2, hp2⟩ : ∃ p, p = ns.getD 2 0 := ⟨_, rfl⟩
      replace hp2 := Lib.hid hp2
      obtain ⟨p3, hp3⟩ : ∃ p, p = ns.getD 3 0 := ⟨_, rfl⟩
      replace hp3 := Lib.hid hp3
      obtain ⟨p4, hp4⟩ : ∃ p, p = ns.getD 4 0 := ⟨_, rfl⟩
      replace hp4 := Lib.hid hp4
      obtain ⟨p5, hp5⟩ : ∃ p, p = ns.getD 5 0 := ⟨_, rfl⟩
      replace hp5 := Lib.hid hp5
      obtain ⟨p6, hp6⟩ : ∃ p, p = ns.getD 6 0 := ⟨_, rfl⟩
      replace hp6 := Lib.hid hp6
      obtain ⟨p7, hp7⟩ : ∃ p, p = ns.getD 7 0 := ⟨_, rfl⟩
      replace hp7 := Lib.hid hp7
      have d3 : V.cell? ⟨b2, 3, none⟩ = some (.int .i64 p3) := by rw [hp3.out]; exact hIV.atk hL.out 3 (by omega)
      have d4 : V.cell? ⟨b2, 4, none⟩ = some (.int .i64 p4) := by rw [hp4.out]; exact hIV.atk hL.out 4 (by omega)
      have d5 : V.cell? ⟨b2, 5, none⟩ = some (.int .i64 p5) := by rw [hp5.out]; exact hIV.atk hL.out 5 (by omega)
      have d6 : V.cell? ⟨b2, 6, none⟩ = some (.int .i64 p6) := by rw [hp6.out]; exact hIV.atk hL.out 6 (by omega)
      have d7 : V.cell? ⟨b2, 7, none⟩ = some (.int .i64 p7) := by rw [hp7.out]; exact hIV.atk hL.out 7 (by omega)
      rw [← hp5.out, ← hp6.out] at hsum
      have hsum' := hsum.out
      have c20 : V.cell? ⟨g, 20, none⟩ = some (.slice A1 sc.mats.length a1) := by rw [← HV.out]; exact HRW.blk.cell 20
      have z20 := HRW.blk.frozen 20
      have cS : V.cell? ⟨b, off + 1, none⟩ = some (.string ⟨name.toArray⟩) := (hB1.cell (p := ⟨b, off + 1, none⟩) hbl).trans hS
      have hVl := HRW.lt
      have hblV : b < V.heap.size := Nat.lt_of_lt_of_le hbl hB1.size
      have hbV2 : b2 < V.heap.size := Nat.lt_of_lt_of_le hb2 hBV.size
      replace hB1 := Lib.hid hB1
      have HRV := Lib.hid HRW
      clear HRW hBV hbV hgV hbl1 hb1
      cases q1 : wi ns 0 3 0 255
      · have C1 := Lib.hid (fun (x : More) => dwr (grow V x) (some ⟨b2, 0, none⟩) 8 c2 0 3 0 3 0 255 ns _ rfl rfl q1 hL.out (by decide) (by decide) (by decide) (hIV.below (bel_grow (Below.refl _ _) x)))
        replace q1 := Lib.hid q1
        refine wp_region_tail 32 ?_ (by kernel_rfl) (by kernel_rfl) (by kernel_rfl) (fun x => ?_) (fun x => ?_)
        rotate_left
        · simp only [List.take_succ_cons, List.take_zero]
          repeat (go_big_quiet_step (((first | with_reducible exact qq1 (C1.out _) | with_reducible exact qq2 (C1.out _)))))
          refine wpQuiet_nil ?_
          exact rfl
        simp only [List.drop_succ_cons, List.drop_zero]
        try simp only [Act.put, List.setIfInBounds_toArray, List.set_cons_succ, List.set_cons_zero]
        go_wp2_with fail
        go_ret
        exact readP_err 11 hgl (bel_trans hB1.out (by repeat (first | with_reducible exact Below.refl _ _ | with_reducible refine bel_then ?_ _ | with_reducible refine bel_grow ?_ _ | with_reducible refine bel_alloc ?_ _ | with_reducible refine bel_drew ?_ | with_reducible refine bel_set ?_ (by simp) _ | with_reducible refine bel_setRow ?_ (by first | omega | (simp; done)) _))) (by rw [HF2.out, if_neg (by rw [q1.out]; simp)])
      have C1 := Lib.hid (fun (x : More) => dwr (grow V x) (some ⟨b2, 0, none⟩) 8 c2 0 3 0 3 0 255 ns _ rfl rfl q1 hL.out (by decide) (by decide) (by decide) (hIV.below (bel_grow (Below.refl _ _) x)))
      replace q1 := Lib.hid q1
      cases q2 : wi ns 3 4 0 256
      · have C2 := Lib.hid (fun (x : More) => dwr (grow V x) (some ⟨b2, 0, none⟩) 8 c2 3 4 3 4 0 256 ns _ rfl rfl q2 hL.out (by decide) (by decide) (by decide) (hIV.below (bel_grow (Below.refl _ _) x)))
        replace q2 := Lib.hid q2
        refine wp_region_tail 32 ?_ (by kernel_rfl) (by kernel_rfl) (by kernel_rfl) (fun x => ?_) (fun x => ?_)
        rotate_left
        · simp only [List.take_succ_cons, List.take_zero]
          repeat (go_big_quiet_step (((first | with_reducible exact qq1 (C1.out _) | with_reducible exact qq2 (C1.out _) | with_reducible exact qq1 (C2.out _) | with_reducible exact qq2 (C2.out _)))))
          refine wpQuiet_nil ?_
          exact rfl
        simp only [List.drop_succ_cons, List.drop_zero]
        try simp only [Act.put, List.setIfInBounds_toArray, List.set_cons_succ, List.set_cons_zero]
        go_wp2_with fail
        go_ret
        exact readP_err 11 hgl (bel_trans hB1.out (by repeat (first | with_reducible exact Below.refl _ _ | with_reducible refine bel_then ?_ _ | with_reducible refine bel_grow ?_ _ | with_reducible refine bel_alloc ?_ _ | with_reducible refine bel_drew ?_ | with_reducible refine bel_set ?_ (by simp) _ | with_reducible refine bel_setRow ?_ (by first | omega | (simp; done)) _))) (by rw [HF2.out, if_neg (by rw [q2.out]; simp)])
      have C2 := Lib.hid (fun (x : More) => dwr (grow V x) (some ⟨b2, 0, none⟩) 8 c2 3 4 3 4 0 256 ns _ rfl rfl q2 hL.out (by decide) (by decide) (by decide) (hIV.below (bel_grow (Below.refl _ _) x)))
      replace q2 := Lib.hid q2
      cases q3 : wi ns 4 5 1 64
      · have C3 := Lib.hid (fun (x : More) => dwr (grow V x) (some ⟨b2, 0, none⟩) 8 c2 4 5 4 5 1 64 ns _ rfl rfl q3 hL.out (by decide) (by decide) (by decide) (hIV.below (bel_grow (Below.refl _ _) x)))
        replace q3 := Lib.hid q3
        refine wp_region_tail 32 ?_ (by kernel_rfl) (by kernel_rfl) (by kernel_rfl) (fun x => ?_) (fun x => ?_)
        rotate_left
        · simp only [List.take_succ_cons, List.take_zero]
          repeat (go_big_quiet_step (((first | with_reducible exact qq1 (C1.out _) | with_reducible exact qq2 (C1.out _) | with_reducible exact qq1 (C2.out _) | with_reducible exact qq2 (C2.out _) | with_reducible exact qq1 (C3.out _) | with_reducible exact qq2 (C3.out _)))))
          refine wpQuiet_nil ?_
          exact rfl
        simp only [List.drop_succ_cons, List.drop_zero]
        try simp only [Act.put, List.setIfInBounds_toArray, List.set_cons_succ, List.set_cons_zero]
        go_wp2_with fail
        go_ret
        exact readP_err 11 hgl (bel_trans hB1.out (by repeat (first | with_reducible exact Below.refl _ _ | with_reducible refine bel_then ?_ _ | with_reducible refine bel_grow ?_ _ | with_reducible refine bel_alloc ?_ _ | with_reducible refine bel_drew ?_ | with_reducible refine bel_set ?_ (by simp) _ | with_reducible refine bel_setRow ?_ (by first | omega | (simp; done)) _))) (by rw [HF2.out, if_neg (by rw [q3.out]; simp)])
      have C3 := Lib.hid (fun (x : More) => dwr (grow V x) (some ⟨b2, 0, none⟩) 8 c2 4 5 4 5 1 64 ns _ rfl rfl q3 hL.out (by decide) (by decide) (by decide) (hIV.below (bel_grow (Below.refl _ _) x)))
      replace q3 := Lib.hid q3
      cases q4 : wi ns 5 7 0 256
      · have C4 := Lib.hid (fun (x : More) => dwr (grow V x) (some ⟨b2, 0, none⟩) 8 c2 5 7 5 7 0 256 ns _ rfl rfl q4 hL.out (by decide) (by decide) (by decide) (hIV.below (bel_grow (Below.refl _ _) x)))
        replace q4 := Lib.hid q4
        refine wp_region_tail 32 ?_ (by kernel_rfl) (by kernel_rfl) (by kernel_rfl) (fun x => ?_) (fun x => ?_)
        rotate_left
        · simp only [List.take_succ_cons, List.take_zero]
          repeat (go_big_quiet_step (((first | with_reducible exact qq1 (C1.out _) | with_reducible exact qq2 (C1.out _) | with_reducible exact qq1 (C2.out _) | with_reducible exact qq2 (C2.out _) | with_reducible exact qq1 (C3.out _) | with_reducible exact qq2 (C3.out _) | with_reducible exact qq1 (C4.out _) | with_reducible exact qq2 (C4.out _)))))
          refine wpQuiet_nil ?_
          exact rfl
        simp only [List.drop_succ_cons, List.drop_zero]
        try simp only [Act.put, List.setIfInBounds_toArray, List.set_cons_succ, List.set_cons_zero]
        go_wp2_with fail
        go_ret
        exact readP_err 11 hgl (bel_trans hB1.out (by repeat (first | with_reducible exact Below.refl _ _ | with_reducible refine bel_then ?_ _ | with_reducible refine bel_grow ?_ _ | with_reducible refine bel_alloc ?_ _ | with_reducible refine bel_drew ?_ | with_reducible refine bel_set ?_ (by simp) _ | with_reducible refine bel_setRow ?_ (by first | omega | (simp; done)) _))) (by rw [HF2.out, if_neg (by rw [q4.out]; simp)])
      have C4 := Lib.hid (fun (x : More) => dwr (grow V x) (some ⟨b2, 0, none⟩) 8 c2 5 7 5 7 0 256 ns _ rfl rfl q4 hL.out (by decide) (by decide) (by decide) (hIV.below (bel_grow (Below.refl _ _) x)))
      replace q4 := Lib.hid q4
      by_cases hs0 : p5 + p6 ≤ 256
      rotate_left
      · have hs : decide (ns.getD 5 0 + ns.getD 6 0 ≤ 256) = false := by rw [← hp5.out, ← hp6.out]; simpa using hs0
        have hsb : decide (256 < p5 + p6) = true := by simp; omega
        replace hs := Lib.hid hs
        refine wp_region_tail 32 ?_ (by kernel_rfl) (by kernel_rfl) (by kernel_rfl) (fun x => ?_) (fun x => ?_)
        rotate_left
        · simp only [List.take_succ_cons, List.take_zero]
          repeat (go_big_quiet_step (((first | with_reducible exact qq1 (C1.out _) | with_reducible exact qq2 (C1.out _) | with_reducible exact qq1 (C2.out _) | with_reducible exact qq2 (C2.out _) | with_reducible exact qq1 (C3.out _) | with_reducible exact qq2 (C3.out _) | with_reducible exact qq1 (C4.out _) | with_reducible exact qq2 (C4.out _)))))
          refine wpQuiet_nil ?_
          exact rfl
        simp only [List.drop_succ_cons, List.drop_zero]
        try simp only [Act.put, List.setIfInBounds_toArray, List.set_cons_succ, List.set_cons_zero]
        go_wp2_with fail
        go_ret
        exact readP_err 11 hgl (bel_trans hB1.out (by repeat (first | with_reducible exact Below.refl _ _ | with_reducible refine bel_then ?_ _ | with_reducible refine bel_grow ?_ _ | with_reducible refine bel_alloc ?_ _ | with_reducible refine bel_drew ?_ | with_reducible refine bel_set ?_ (by simp) _ | with_reducible refine bel_setRow ?_ (by first | omega | (simp; done)) _))) (by rw [HF2.out, if_neg (by rw [hs.out]; simp)])
      have hs : decide (ns.getD 5 0 + ns.getD 6 0 ≤ 256) = true := by rw [← hp5.out, ← hp6.out]; simpa using hs0
      have hsb : decide (256 < p5 + p6) = false := by simp; omega
      replace hs := Lib.hid hs
      clear hs0
      cases q5 : wi ns 7 8 64 1024
      · have C5 := Lib.hid (fun (x : More) => dwr (grow V x) (some ⟨b2, 0, none⟩) 8 c2 7 8 7 8 64 1024 ns _ rfl rfl q5 hL.out (by decide) (by decide) (by decide) (hIV.below (bel_grow (Below.refl _ _) x)))
        replace q5 := Lib.hid q5
        refine wp_region_tail 32 ?_ (by kernel_rfl) (by kernel_rfl) (by kernel_rfl) (fun x => ?_) (fun x => ?_)
        rotate_left
        · simp only [List.take_succ_cons, List.take_zero]
          repeat (go_big_quiet_step (((first | with_reducible exact qq1 (C1.out _) | with_reducible exact qq2 (C1.out _) | with_reducible exact qq1 (C2.out _) | with_reducible exact qq2 (C2.out _) | with_reducible exact qq1 (C3.out _) | with_reducible exact qq2 (C3.out _) | with_reducible exact qq1 (C4.out _) | with_reducible exact qq2 (C4.out _) | with_reducible exact qq1 (C5.out _) | with_reducible exact qq2 (C5.out _)))))
          refine wpQuiet_nil ?_
          exact rfl
        simp only [List.drop_succ_cons, List.drop_zero]
        try simp only [Act.put, List.setIfInBounds_toArray, List.set_cons_succ, List.set_cons_zero]
        go_wp2_with fail
        go_ret
        exact readP_err 11 hgl (bel_trans hB1.out (by repeat (first | with_reducible exact Below.refl _ _ | with_reducible refine bel_then ?_ _ | with_reducible refine bel_grow ?_ _ | with_reducible refine bel_alloc ?_ _ | with_reducible refine bel_drew ?_ | with_reducible refine bel_set ?_ (by simp) _ | with_reducible refine bel_setRow ?_ (by first | omega | (simp; done)) _))) (by rw [HF2.out, if_neg (by rw [q5.out]; simp)])
      have C5 := Lib.hid (fun (x : More) => dwr (grow V x) (some ⟨b2, 0, none⟩) 8 c2 7 8 7 8 64 1024 ns _ rfl rfl q5 hL.out (by decide) (by decide) (by decide) (hIV.below (bel_grow (Below.refl _ _) x)))
      replace q5 := Lib.hid q5
      have HS := Lib.hid (show matF sc (name :: vs) = .ok { sc with mats := sc.mats ++ [(name, ns)] } by
        rw [HF2.out, q1.out, q2.out, q3.out, q4.out, hs.out, q5.out]; rfl)
      clear HF2 q1 q2 q3 q4 hs q5
      refine wp_region_tail 32 ?_ (by kernel_rfl) (by kernel_rfl) (by kernel_rfl) (fun x => ?_) (fun x => ?_)
      rotate_left
      · simp only [List.take_succ_cons, List.take_zero]
        repeat (go_big_quiet_step (((first | with_reducible exact qq1 (C1.out _) | with_reducible exact qq2 (C1.out _) | with_reducible exact qq1 (C2.out _) | with_reducible exact qq2 (C2.out _) | with_reducible exact qq1 (C3.out _) | with_reducible exact qq2 (C3.out _) | with_reducible exact qq1 (C4.out _) | with_reducible exact qq2 (C4.out _) | with_reducible exact qq1 (C5.out _) | with_reducible exact qq2 (C5.out _)))))
        refine wpQuiet_nil ?_
        exact rfl
      simp only [List.drop_succ_cons, List.drop_zero]
      try simp only [Act.put, List.setIfInBounds_toArray, List.set_cons_succ, List.set_cons_zero]
      go_upto_region 12 with fail
      clear C1 C2 C3 C4 C5 hsum hsum'
      refine wp_letter (fun U hUe => ?_)
      have hBU : Below V.heap.size V U := by rw [hUe]; (repeat (first | with_reducible exact Below.refl _ _ | with_reducible refine bel_then ?_ _ | with_reducible refine bel_grow ?_ _ | with_reducible refine bel_alloc ?_ _ | with_reducible refine bel_drew ?_ | with_reducible refine bel_set ?_ (by simp) _ | with_reducible refine bel_setRow ?_ (by first | omega | (simp; done)) _))
      clear hUe
      have cS2 : U.cell? ⟨b, off + 1, none⟩ = some (.string ⟨name.toArray⟩) := (hBU.cell (p := ⟨b, off + 1, none⟩) hblV).trans cS
      have d32 : U.cell? ⟨b2, 3, none⟩ = some (.int .i64 p3) := (hBU.cell (p := ⟨b2, 3, none⟩) hbV2).trans d3
      have d42 : U.cell? ⟨b2, 4, none⟩ = some (.int .i64 p4) := (hBU.cell (p := ⟨b2, 4, none⟩) hbV2).trans d4
      have d52 : U.cell? ⟨b2, 5, none⟩ = some (.int .i64 p5) := (hBU.cell (p := ⟨b2, 5, none⟩) hbV2).trans d5
      have d62 : U.cell? ⟨b2, 6, none⟩ = some (.int .i64 p6) := (hBU.cell (p := ⟨b2, 6, none⟩) hbV2).trans d6
      have d72 : U.cell? ⟨b2, 7, none⟩ = some (.int .i64 p7) := (hBU.cell (p := ⟨b2, 7, none⟩) hbV2).trans d7
      have HRU := Lib.hid (HRV.out.below hBU)
      have c202 : U.cell? ⟨g, 20, none⟩ = some (.slice A1 sc.mats.length a1) := by rw [← HV.out]; exact HRU.out.blk.cell 20
      have z202 := HRU.out.blk.frozen 20
      have hUl := HRU.out.lt
      have hblU : b < U.heap.size := Nat.lt_of_lt_of_le hblV hBU.size
      have hbU2 : b2 < U.heap.size := Nat.lt_of_lt_of_le hbV2 hBU.size
      have hIU := Lib.hid (hIV.below hBU)
      have hB1U : Below W.heap.size W U := bel_trans hB1.out hBU
      replace hB1U := Lib.hid hB1U
      clear cS c20 z20 hVl hblV hbV2 HRV hB1 hBU d3 d4 d5 d6 d7
      have OW : ∀ x, (grow U x).ownsRow g 65 9 (.slice A1 sc.mats.length a1) sc.mats.length (sc.mats.flatMap fM) := by
        intro x; rw [← HV.out]; exact (HRU.out.grow x).own.row .mats
      replace OW := Lib.hid OW
      have CC : ∀ (x : More), Calls Tryd.prog 45 #[.slice (some ⟨b2, 0, none⟩) 8 c2, .int .i64 0] (grow U x) fun e w' => e = .returned (.agg #[.int .i64 p0, .int .i64 p1, .int .i64 p2]) ∧ ∃ z, w' = grow (grow U x) z := fun x => by
        rw [hp0.out, hp1.out, hp2.out]
        exact dcolor (grow U x) (some ⟨b2, 0, none⟩) 8 c2 0 0 ns rfl hL.out (by decide) (by decide) (hIU.out.below (bel_grow (Below.refl _ _) x))
      replace CC := Lib.hid CC
      have HNS := Lib.hid (show fM (name, ns) = [.string ⟨name.toArray⟩, .int .i64 p0, .int .i64 p1, .int .i64 p2, .int .i64 p3, .int .i64 p4, .int .i64 p5, .int .i64 p6, .int .i64 p7] by rw [hp0.out, hp1.out, hp2.out, hp3.out, hp4.out, hp5.out, hp6.out, hp7.out]; rfl)
      clear hp0 hp1 hp2 hp3 hp4 hp5 hp6 hp7 hIV hown
      refine wp_region_makeS_ 27 ?_ (.pointer (some ⟨g, 0, none⟩)) 98 (.cells #[.string ⟨name.toArray⟩, .int .i64 p0, .int .i64 p1, .int .i64 p2, .int .i64 p3, .int .i64 p4, .int .i64 p5, .int .i64 p6, .int .i64 p7] 65) (by kernel_rfl) (by kernel_rfl) (by kernel_rfl) rfl rfl rfl (fun _ _ _ h => h) ?_ (fun x => ?_) (fun x y => ?_)
      rotate_left 2
      · simp only [List.take_succ_cons, List.take_zero, List.tail_cons, Act.put, List.setIfInBounds_toArray, List.set_cons_succ, List.set_cons_zero]
        repeat (go_big_quiet_step (((first | with_reducible exact qq1 (CC.out _) | with_reducible exact qq2 (CC.out _)))))
        refine wpQuiet_nil ?_
        exact rfl
      rotate_left
      · exact ⟨_, rfl, rfl, rfl, fun u => by simp [execOp, go_sem]⟩
      simp only [List.drop_succ_cons, List.drop_zero]
      try simp only [Act.put, List.setIfInBounds_toArray, List.set_cons_succ, List.set_cons_zero]
      go_wp2_with (at_builtin; go_loud (refine wpList_append_own_at _ rfl _ _ 30 rfl g 65 i0 _ 9 80 Tryd.underlying30 hi0 hz0 hz1 hz2 rfl (by decide) _ _ _ rfl (own_grow ((OW.out _).alloc _) _) ⟨_, 0, none⟩ 1 1 [.string ⟨name.toArray⟩, .int .i64 p0, .int .i64 p1, .int .i64 p2, .int .i64 p3, .int .i64 p4, .int .i64 p5, .int .i64 p6, .int .i64 p7] rfl rfl (cell_newG _ [.string ⟨name.toArray⟩, .int .i64 p0, .int .i64 p1, .int .i64 p2, .int .i64 p3, .int .i64 p4, .int .i64 p5, .int .i64 p6, .int .i64 p7] _ _) (fun u hu => by simp at hu; rcases hu with rfl | rfl | rfl | rfl | rfl | rfl | rfl | rfl | rfl <;> rfl) (by unfold maxLen; omega) (by omega) (Nat.le_trans (Nat.le_of_lt hUl) (@Below.size U.heap.size U _ (by repeat (first | with_reducible exact Below.refl _ _ | with_reducible refine bel_then ?_ _ | with_reducible refine bel_grow ?_ _ | with_reducible refine bel_alloc ?_ _ | with_reducible refine bel_drew ?_ | with_reducible refine bel_set ?_ (by simp) _ | with_reducible refine bel_setRow ?_ (by first | omega | (simp; done)) _)))) ?_); intro v4 w4 hown4 hgr4 hnil4 hat4; clear hnil4; obtain ⟨A4, a4, rfl⟩ := own_form hown4; go_loud (obtain ⟨B4, R4⟩ := HRU.out.matsP HV.out (name, ns) HNS.out _ hgr4 hown4 hat4 (by repeat (first | with_reducible exact Below.refl _ _ | with_reducible refine bel_then ?_ _ | with_reducible refine bel_grow ?_ _ | with_reducible refine bel_alloc ?_ _ | with_reducible refine bel_drew ?_ | with_reducible refine bel_set ?_ (by simp) _ | with_reducible refine bel_setRow ?_ (by first | omega | (simp; done)) _)); have hB4 := fr_app (TR := 61) hB1U.out hgl hgr4 (own_typed (OW.out More.none_)) (by decide) (Nat.le_refl _) HRU.out.blk (fun h => h) 20 (.slice A4 (sc.mats.length + 1) a4) (by repeat (first | with_reducible exact Below.refl _ _ | with_reducible refine bel_then ?_ _ | with_reducible refine bel_grow ?_ _ | with_reducible refine bel_alloc ?_ _ | with_reducible refine bel_drew ?_ | with_reducible refine bel_set ?_ (by simp) _ | with_reducible refine bel_setRow ?_ (by first | omega | (simp; done)) _)); have c4 : w4.cell? ⟨g, 20, none⟩ = some (val .mats) := B4.cell 20; have z4 := B4.frozen 20; replace R4 := Lib.hid R4; replace hB4 := Lib.hid hB4; clear hgr4 hown4 hat4))
      go_ret
      exact readP_ok HS.out hB4.out.1 R4.out

end Go.Proofs.YtehmlofhiffanaaDoor

/- The document's own Reader: the line of a cage. -/
namespace Go.Proofs.YtehmlofhiffanaaDoor
open Go.RowKit
set_option linter.unusedVariables false
set_option linter.unusedSimpArgs false
set_option linter.unnecessarySimpa false

theorem wpAnyH_forced {P : Program} {md : Region.Mode} {ops : Array Oper} {Q : Exit → Act → World → Prop} {S : World → Prop} {fuel i : Nat} {oi : Oper} {listed : Array Bool} {a : Act} {w : World} (hr : Region.ready md ops listed = [i]) (hi : ops[i]? = some oi) (hg : oi.guard = none)
    (h : oi.wp P a w (fun a' w' => S w' ∧ wpAnyH P md ops Q S fuel (listed.setIfInBounds i true) a' w') Q) : wpAnyH P md ops Q S (fuel + 1) listed a w := by
  refine ⟨fun h0 => (by rw [hr] at h0; cases h0), fun j hj => ?_⟩
  rw [hr] at hj
  obtain rfl : j = i := by simpa using hj
  unfold wpOp
  simp only [hi]
  rw [if_pos (by simp [Region.wanted, hg])]
  left
  exact h
theorem anyH_letter {P : Program} {md : Region.Mode} {ops : Array Oper} {Q : Exit → Act → World → Prop} {S : World → Prop} {fuel : Nat} {listed : Array Bool} {a : Act} {w : World} (h : ∀ V : World, V = w → wpAnyH P md ops Q S fuel listed a V) : wpAnyH P md ops Q S fuel listed a w := h w rfl
theorem wp_value {P : Program} {o : Oper} {a : Act} {w w' : World} {v : Value} {K : Act → World → Prop} {Q : Exit → Act → World → Prop} (h : (execOp a.eval o).run P w = .ok (.value v) w') (hk : K (a.put o.dst v) w') : o.wp P a w K Q := by
  unfold Oper.wp
  rw [h]
  exact hk
theorem wp_enter {P : Program} {o : Oper} {a : Act} {w w' : World} {f : FuncId} {args : Array Value} {R : Value → World → Prop} {K : Act → World → Prop} {Q : Exit → Act → World → Prop} (h : (execOp a.eval o).run P w = .ok (.enter f args) w') (hc : Calls P f args w' fun e w'' => ∃ v, e = .returned v ∧ R v w'') (hk : ∀ v w'', R v w'' → K (a.put o.dst v) w'') : o.wp P a w K Q := by
  unfold Oper.wp
  rw [h]
  exact hc.mono fun e w'' ⟨v, he, hr⟩ => by
    subst he
    exact hk v w'' hr
theorem bel_dr {a w : World} (h : Below a.heap.size a w) (d : Nat) : Below a.heap.size a { w with drawn := d } := ⟨h.os, h.tape, h.output, h.size, h.block⟩

set_option maxRecDepth 100000 in
set_option maxHeartbeats 4000000 in
theorem dskin_len (W : World) (g n c b off : Nat) (sc : Scn) (val : Key → Value) (ws : List Wd) (hn : ws.length = n) (hl : n ≤ 65537) (hc : n + 1 ≤ c) (h6 : ¬ n = 6) (hR : RepV g W g 61 sc val) :
    Calls Tryd.prog 27 #[.pointer (some ⟨g, 0, none⟩), .slice (some ⟨b, off, none⟩) (n + 1) c] W fun e W' => readP g 61 W (skinF sc ws) e W' := by
  have hgl := hR.lt
  have HF := Lib.hid (skinF_short sc ws (by omega))
  clear hR hn
  have e1 : ((n : Int) + 1 == 7) = false := by rw [beq_eq_false_iff_ne]; omega
  have e2 : ((n : Int) + 1 != 7) = true := by rw [bne_iff_ne]; omega
  have e3 : ¬ (n : Int) + 1 = 7 := by omega
  have e4 : ¬ (n : Int) = 6 := by omega
  go_enter Tryd.func27, Tryd.ntmps27
  go_wp2_with fail
  all_goals go_ret
  all_goals exact readP_err 10 hgl (by repeat (first | with_reducible exact Below.refl _ _ | with_reducible refine bel_then ?_ _ | with_reducible refine bel_grow ?_ _ | with_reducible refine bel_alloc ?_ _ | with_reducible refine bel_drew ?_ | with_reducible refine bel_set ?_ (by simp) _ | with_reducible refine bel_setRow ?_ (by first | omega | (simp; done)) _)) (by exact HF.out)
set_option maxRecDepth 100000 in
set_option maxHeartbeats 4000000 in
theorem dskin_names (W : World) (g c b off : Nat) (sc : Scn) (val : Key → Value) (k name mat w3 w4 tex w6 : Wd) (hc : 7 ≤ c) (hA : SFW W (some ⟨b, off, none⟩) [k, name, mat, w3, w4, tex, w6]) (hR : RepV g W g 61 sc val) (h : isN name = false ∨ isN mat = false ∨ (tex ≠ kNo ∧ isN tex = false)) :
    Calls Tryd.prog 27 #[.pointer (some ⟨g, 0, none⟩), .slice (some ⟨b, off, none⟩) 7 c] W fun e W' => readP g 61 W (skinF sc [name, mat, w3, w4, tex, w6]) e W' := by
  have hgl := hR.lt
  have hcell : ∀ i, i < 7 → W.cell? ⟨b, off + i, none⟩ = some (.string ⟨(([k, name, mat, w3, w4, tex, w6]).getD i []).toArray⟩) := by
    obtain ⟨b2, off2, q, hb, hcc⟩ := hA (by simp)
    cases q
    intro i hi
    exact hcc i (by simpa using hi)
  have hbl : b < W.heap.size := (hA (by simp)).elim fun b2 ⟨off2, q, hb, _⟩ => by cases q; exact hb
  have s1 : W.cell? ⟨b, off + 1, none⟩ = some (.string ⟨name.toArray⟩) := hcell 1 (by omega)
  have s2 : W.cell? ⟨b, off + 2, none⟩ = some (.string ⟨mat.toArray⟩) := hcell 2 (by omega)
  have s3 : W.cell? ⟨b, off + 3, none⟩ = some (.string ⟨w3.toArray⟩) := hcell 3 (by omega)
  have s4 : W.cell? ⟨b, off + 4, none⟩ = some (.string ⟨w4.toArray⟩) := hcell 4 (by omega)
  have s5 : W.cell? ⟨b, off + 5, none⟩ = some (.string ⟨tex.toArray⟩) := hcell 5 (by omega)
  have s6 : W.cell? ⟨b, off + 6, none⟩ = some (.string ⟨w6.toArray⟩) := hcell 6 (by omega)
  have CN1 := Lib.hid (dName name)
  have CN2 := Lib.hid (dName mat)
  have CN3 := Lib.hid (dName tex)
  have EQT := eqNo tex
  have EQT2 := eqNo2 tex
  clear hcell hA
  have HF := Lib.hid (skinF_names sc name mat w3 w4 tex w6 h)
  clear hR
  generalize hb3 : decide (tex = kNo) = bt at *
  generalize isN name = bn at *
  generalize isN mat = bm at *
  generalize isN tex = bx at *
  have h2 : bn = false ∨ bm = false ∨ (bt = false ∧ bx = false) := by
    rcases h with h | h | ⟨h, h'⟩
    · exact .inl h
    · exact .inr (.inl h)
    · exact .inr (.inr ⟨by rw [← hb3]; simpa using h, h'⟩)
  clear h hb3
  have ET3 : (tex != [45]) = !bt := by rw [bne, EQT]
  have ET4 : ((⟨tex.toArray⟩ : ByteArray).toList != [45]) = !bt := by rw [bne, EQT2]
  rcases (by revert h2; cases bn <;> cases bm <;> cases bt <;> cases bx <;> simp : bn = false ∨ (bn = true ∧ bm = false) ∨ (bn = true ∧ bm = true ∧ bt = false ∧ bx = false)) with rfl | ⟨rfl, rfl⟩ | ⟨rfl, rfl, rfl, rfl⟩
  all_goals
    go_enter Tryd.func27, Tryd.ntmps27
    go_wp2_with (first | (go_at_call 46; (with_reducible refine (CN1.out _).mono ?_); rintro e _ ⟨rfl, x1, rfl⟩) | (go_at_call 46; (with_reducible refine (CN2.out _).mono ?_); rintro e _ ⟨rfl, x2, rfl⟩) | (go_at_call 46; (with_reducible refine (CN3.out _).mono ?_); rintro e _ ⟨rfl, x3, rfl⟩))
    go_ret
    exact readP_err 10 hgl (by repeat (first | with_reducible exact Below.refl _ _ | with_reducible refine bel_then ?_ _ | with_reducible refine bel_grow ?_ _ | with_reducible refine bel_alloc ?_ _ | with_reducible refine bel_drew ?_ | with_reducible refine bel_set ?_ (by simp) _ | with_reducible refine bel_setRow ?_ (by first | omega | (simp; done)) _)) (by exact HF.out)
set_option maxRecDepth 100000 in
set_option maxHeartbeats 8000000 in
theorem dskin_go (W : World) (g c b off : Nat) (sc : Scn) (val : Key → Value) (k name mat w3 w4 tex w6 : Wd) (hc : 7 ≤ c) (hA : SFW W (some ⟨b, off, none⟩) [k, name, mat, w3, w4, tex, w6]) (hR : RepV g W g 61 sc val) (hI : InvT sc) (h1 : isN name = true) (h2 : isN mat = true) (h3 : tex = kNo ∨ isN tex = true) :
    Calls Tryd.prog 27 #[.pointer (some ⟨g, 0, none⟩), .slice (some ⟨b, off, none⟩) 7 c] W fun e W' => readP g 61 W (skinF sc [name, mat, w3, w4, tex, w6]) e W' := by
  have hgl := hR.lt
  have hcell : ∀ i, i < 7 → W.cell? ⟨b, off + i, none⟩ = some (.string ⟨(([k, name, mat, w3, w4, tex, w6]).getD i []).toArray⟩) := by
    obtain ⟨b2, off2, q, hb, hcc⟩ := hA (by simp)
    cases q
    intro i hi
    exact hcc i (by simpa using hi)
  have hbl : b < W.heap.size := (hA (by simp)).elim fun b2 ⟨off2, q, hb, _⟩ => by cases q; exact hb
  have s1 : W.cell? ⟨b, off + 1, none⟩ = some (.string ⟨name.toArray⟩) := hcell 1 (by omega)
  have s2 : W.cell? ⟨b, off + 2, none⟩ = some (.string ⟨mat.toArray⟩) := hcell 2 (by omega)
  have s3 : W.cell? ⟨b, off + 3, none⟩ = some (.string ⟨w3.toArray⟩) := hcell 3 (by omega)
  have s4 : W.cell? ⟨b, off + 4, none⟩ = some (.string ⟨w4.toArray⟩) := hcell 4 (by omega)
  have s5 : W.cell? ⟨b, off + 5, none⟩ = some (.string ⟨tex.toArray⟩) := hcell 5 (by omega)
  have s6 : W.cell? ⟨b, off + 6, none⟩ = some (.string ⟨w6.toArray⟩) := hcell 6 (by omega)
  have CN1 := Lib.hid (dName name)
  have CN2 := Lib.hid (dName mat)
  have CN3 := Lib.hid (dName tex)
  have EQT := eqNo tex
  have EQT2 := eqNo2 tex
  clear hcell hA
  have HF := Lib.hid (skinF_good sc name mat w3 w4 tex w6 h1 h2 h3)
  obtain ⟨A1, a1, hv⟩ := own_form (show W.ownsRow g 42 6 (val .skins) sc.skins.length (sc.skins.flatMap fS) from hR.own.row .skins)
  obtain ⟨i0, hi0, hz0, hz1, hz2⟩ := info_parts infoSk
  have HV := Lib.hid hv
  have HR := Lib.hid hR
  clear hR hv
  rw [h1] at CN1
  rw [h2] at CN2
  have h3' : decide (tex = kNo) = true ∨ decide (tex = kNo) = false ∧ isN tex = true := by
    by_cases q : tex = kNo
    · exact .inl (by simp [q])
    · exact .inr ⟨by simp [q], h3.resolve_left q⟩
  generalize hb3 : decide (tex = kNo) = bt at *
  generalize isN tex = bx at *
  replace hb3 := Lib.hid hb3
  have ET3 : (tex != [45]) = !bt := by rw [bne, EQT]
  have ET4 : ((⟨tex.toArray⟩ : ByteArray).toList != [45]) = !bt := by rw [bne, EQT2]
  clear h1 h2 h3
  have HI := Lib.hid hI
  cases hN : numsF [w3, w4, w6] with
  | none =>
    replace hN := Lib.hid hN
    rcases h3' with rfl | ⟨rfl, rfl⟩
    all_goals
      go_enter Tryd.func27, Tryd.ntmps27
      go_upto_region 3 with (first | (go_at_call 46; (with_reducible refine (CN1.out _).mono ?_); rintro e _ ⟨rfl, x1, rfl⟩) | (go_at_call 46; (with_reducible refine (CN2.out _).mono ?_); rintro e _ ⟨rfl, x2, rfl⟩) | (go_at_call 46; (with_reducible refine (CN3.out _).mono ?_); rintro e _ ⟨rfl, x3, rfl⟩))
      refine wp_letter (fun V0 hV0 => ?_)
      have hS0 : Below W.heap.size W V0 := by rw [hV0]; (repeat (first | with_reducible exact Below.refl _ _ | with_reducible refine bel_then ?_ _ | with_reducible refine bel_grow ?_ _ | with_reducible refine bel_alloc ?_ _ | with_reducible refine bel_drew ?_ | with_reducible refine bel_set ?_ (by simp) _ | with_reducible refine bel_setRow ?_ (by first | omega | (simp; done)) _))
      clear hV0
      refine wp_region_held (S := fun w' => Below W.heap.size W w') (by kernel_rfl) ?_
      refine anyH_letter (fun V9 hV9 => ?_)
      have hS9 : Below W.heap.size W V9 := by rw [hV9]; exact bel_dr hS0 _
      clear hV9
      refine wpAnyH_take (i := 0) (v := .slice (some ⟨b, off, none⟩) 7 c) rfl (by kernel_rfl) (by kernel_rfl) (by kernel_rfl) (fun _ _ _ h => h) (.inl ⟨rfl, fun w hS => by simp [execOp, go_sem, Act.put]⟩) hS9 ?_
      refine wpAnyH_take (i := 1) (v := .pointer (some ⟨b, off + 3, none⟩)) rfl (by kernel_rfl) (by kernel_rfl) (by kernel_rfl) (fun _ _ _ h => h) (.inl ⟨rfl, fun w hS => by simp [execOp, go_sem, Act.put]⟩) hS9 ?_
      refine wpAnyH_take (i := 2) (v := .string ⟨w3.toArray⟩) rfl (by kernel_rfl) (by kernel_rfl) (by kernel_rfl) (fun _ _ _ h => h) (.inl ⟨rfl, fun w hS => by have hcf := (hS.cell (p := ⟨b, off + 3, none⟩) hbl).trans s3; simp [execOp, go_sem, Act.put, hcf]⟩) hS9 ?_
      refine wpAnyH_take (i := 3) (v := .slice (some ⟨b, off, none⟩) 7 c) rfl (by kernel_rfl) (by kernel_rfl) (by kernel_rfl) (fun _ _ _ h => h) (.inl ⟨rfl, fun w hS => by simp [execOp, go_sem, Act.put]⟩) hS9 ?_
      refine wpAnyH_take (i := 4) (v := .pointer (some ⟨b, off + 4, none⟩)) rfl (by kernel_rfl) (by kernel_rfl) (by kernel_rfl) (fun _ _ _ h => h) (.inl ⟨rfl, fun w hS => by simp [execOp, go_sem, Act.put]⟩) hS9 ?_
      refine wpAnyH_take (i := 5) (v := .string ⟨w4.toArray⟩) rfl (by kernel_rfl) (by kernel_rfl) (by kernel_rfl) (fun _ _ _ h => h) (.inl ⟨rfl, fun w hS => by have hcf := (hS.cell (p := ⟨b, off + 4, none⟩) hbl).trans s4; simp [execOp, go_sem, Act.put, hcf]⟩) hS9 ?_
      refine wpAnyH_take (i := 6) (v := .slice (some ⟨b, off, none⟩) 7 c) rfl (by kernel_rfl) (by kernel_rfl) (by kernel_rfl) (fun _ _ _ h => h) (.inl ⟨rfl, fun w hS => by simp [execOp, go_sem, Act.put]⟩) hS9 ?_
      refine wpAnyH_take (i := 7) (v := .pointer (some ⟨b, off + 6, none⟩)) rfl (by kernel_rfl) (by kernel_rfl) (by kernel_rfl) (fun _ _ _ h => h) (.inl ⟨rfl, fun w hS => by simp [execOp, go_sem, Act.put]⟩) hS9 ?_
      refine wpAnyH_take (i := 8) (v := .string ⟨w6.toArray⟩) rfl (by kernel_rfl) (by kernel_rfl) (by kernel_rfl) (fun _ _ _ h => h) (.inl ⟨rfl, fun w hS => by have hcf := (hS.cell (p := ⟨b, off + 6, none⟩) hbl).trans s6; simp [execOp, go_sem, Act.put, hcf]⟩) hS9 ?_
      refine wpAnyH_forced (i := 9) (by kernel_rfl) rfl rfl ?_
      refine wp_value (v := .slice (some ⟨V9.heap.size, 0, none⟩) 3 3) (w' := V9.alloc (.cells #[.string ⟨w3.toArray⟩, .string ⟨w4.toArray⟩, .string ⟨w6.toArray⟩] 9)) (by simp [execOp, go_sem, Act.put]) ⟨bel_alloc hS9 _, ?_⟩
      refine wpAnyH_forced (i := 10) (by kernel_rfl) rfl rfl ?_
      refine wp_enter (f := 42) (args := #[.slice (some ⟨V9.heap.size, 0, none⟩) 3 3]) (w' := V9.alloc (.cells #[.string ⟨w3.toArray⟩, .string ⟨w4.toArray⟩, .string ⟨w6.toArray⟩] 9)) (R := fun v w2 => v = .tuple #[.slice none 0 0, .bool false] ∧ Below W.heap.size W w2) (by simp [execOp, go_sem, Act.put]) ?_ ?_
      · refine (numbers_any _ _ _ 3 [w3, w4, w6] rfl (by decide) (SFW.new3 V9 _ _ _ _)).mono ?_
        rintro e V hp
        rw [numsPost_none hN.out] at hp
        exact ⟨_, hp.2, rfl, bel_trans (bel_alloc hS9 _) hp.1⟩
      rintro vt V ⟨rfl, hbV⟩
      refine ⟨hbV, ?_⟩
      refine wpAnyH_take (i := 11) (v := .tuple #[.slice none 0 0, .bool false]) rfl (by kernel_rfl) (by kernel_rfl) (by kernel_rfl) (fun _ _ _ h => h) (.inl ⟨rfl, fun w hS => by simp [execOp, go_sem, Act.put]⟩) hbV ?_
      refine wpAnyH_take (i := 12) (v := .slice none 0 0) rfl (by kernel_rfl) (by kernel_rfl) (by kernel_rfl) (fun _ _ _ h => h) (.inl ⟨rfl, fun w hS => by simp [execOp, go_sem, Act.put]⟩) hbV ?_
      refine wpAnyH_take (i := 13) (v := .bool false) rfl (by kernel_rfl) (by kernel_rfl) (by kernel_rfl) (fun _ _ _ h => h) (.inl ⟨rfl, fun w hS => by simp [execOp, go_sem, Act.put]⟩) hbV ?_
      refine wpAnyH_take (i := 14) (v := .slice none 0 0) rfl (by kernel_rfl) (by kernel_rfl) (by kernel_rfl) (fun _ _ _ h => h) (.inl ⟨rfl, fun w hS => by simp [execOp, go_sem, Act.put]⟩) hbV ?_
      refine wpAnyH_take (i := 15) (v := .bool false) rfl (by kernel_rfl) (by kernel_rfl) (by kernel_rfl) (fun _ _ _ h => h) (.inl ⟨rfl, fun w hS => by simp [execOp, go_sem, Act.put]⟩) hbV ?_
      refine wpAnyH_done (by kernel_rfl) ?_ _
      go_wp2_with fail
      go_ret
      exact readP_err 10 hgl (bel_trans hbV (by repeat (first | with_reducible exact Below.refl _ _ | with_reducible refine bel_then ?_ _ | with_reducible refine bel_grow ?_ _ | with_reducible refine bel_alloc ?_ _ | with_reducible refine bel_drew ?_ | with_reducible refine bel_set ?_ (by simp) _ | with_reducible refine bel_setRow ?_ (by first | omega | (simp; done)) _))) (by rw [HF.out, hN.out])

  | some ns =>
    have hLn : ns.length = 3 := numsF_len _ _ hN
    have hL := Lib.hid hLn
    rcases h3' with rfl | ⟨rfl, rfl⟩
    all_goals
      go_enter Tryd.func27, Tryd.ntmps27
      go_upto_region 3 with (first | (go_at_call 46; (with_reducible refine (CN1.out _).mono ?_); rintro e _ ⟨rfl, x1, rfl⟩) | (go_at_call 46; (with_reducible refine (CN2.out _).mono ?_); rintro e _ ⟨rfl, x2, rfl⟩) | (go_at_call 46; (with_reducible refine (CN3.out _).mono ?_); rintro e _ ⟨rfl, x3, rfl⟩))
      refine wp_letter (fun V0 hV0 => ?_)
      have hS0 : Below W.heap.size W V0 := by rw [hV0]; (repeat (first | with_reducible exact Below.refl _ _ | with_reducible refine bel_then ?_ _ | with_reducible refine bel_grow ?_ _ | with_reducible refine bel_alloc ?_ _ | with_reducible refine bel_drew ?_ | with_reducible refine bel_set ?_ (by simp) _ | with_reducible refine bel_setRow ?_ (by first | omega | (simp; done)) _))
      clear hV0
      refine wp_region_held (S := fun w' => Below W.heap.size W w') (by kernel_rfl) ?_
      refine anyH_letter (fun V9 hV9 => ?_)
      have hS9 : Below W.heap.size W V9 := by rw [hV9]; exact bel_dr hS0 _
      clear hV9
      refine wpAnyH_take (i := 0) (v := .slice (some ⟨b, off, none⟩) 7 c) rfl (by kernel_rfl) (by kernel_rfl) (by kernel_rfl) (fun _ _ _ h => h) (.inl ⟨rfl, fun w hS => by simp [execOp, go_sem, Act.put]⟩) hS9 ?_
      refine wpAnyH_take (i := 1) (v := .pointer (some ⟨b, off + 3, none⟩)) rfl (by kernel_rfl) (by kernel_rfl) (by kernel_rfl) (fun _ _ _ h => h) (.inl ⟨rfl, fun w hS => by simp [execOp, go_sem, Act.put]⟩) hS9 ?_
      refine wpAnyH_take (i := 2) (v := .string ⟨w3.toArray⟩) rfl (by kernel_rfl) (by kernel_rfl) (by kernel_rfl) (fun _ _ _ h => h) (.inl ⟨rfl, fun w hS => by have hcf := (hS.cell (p := ⟨b, off + 3, none⟩) hbl).trans s3; simp [execOp, go_sem, Act.put, hcf]⟩) hS9 ?_
      refine wpAnyH_take (i := 3) (v := .slice (some ⟨b, off, none⟩) 7 c) rfl (by kernel_rfl) (by kernel_rfl) (by kernel_rfl) (fun _ _ _ h => h) (.inl ⟨rfl, fun w hS => by simp [execOp, go_sem, Act.put]⟩) hS9 ?_
      refine wpAnyH_take (i := 4) (v := .pointer (some ⟨b, off + 4, none⟩)) rfl (by kernel_rfl) (by kernel_rfl) (by kernel_rfl) (fun _ _ _ h => h) (.inl ⟨rfl, fun w hS => by simp [execOp, go_sem, Act.put]⟩) hS9 ?_
      refine wpAnyH_take (i := 5) (v := .string ⟨w4.toArray⟩) rfl (by kernel_rfl) (by kernel_rfl) (by kernel_rfl) (fun _ _ _ h => h) (.inl ⟨rfl, fun w hS => by have hcf := (hS.cell (p := ⟨b, off + 4, none⟩) hbl).trans s4; simp [execOp, go_sem, Act.put, hcf]⟩) hS9 ?_
      refine wpAnyH_take (i := 6) (v := .slice (some ⟨b, off, none⟩) 7 c) rfl (by kernel_rfl) (by kernel_rfl) (by kernel_rfl) (fun _ _ _ h => h) (.inl ⟨rfl, fun w hS => by simp [execOp, go_sem, Act.put]⟩) hS9 ?_
      refine wpAnyH_take (i := 7) (v := .pointer (some ⟨b, off + 6, none⟩)) rfl (by kernel_rfl) (by kernel_rfl) (by kernel_rfl) (fun _ _ _ h => h) (.inl ⟨rfl, fun w hS => by simp [execOp, go_sem, Act.put]⟩) hS9 ?_
      refine wpAnyH_take (i := 8) (v := .string ⟨w6.toArray⟩) rfl (by kernel_rfl) (by kernel_rfl) (by kernel_rfl) (fun _ _ _ h => h) (.inl ⟨rfl, fun w hS => by have hcf := (hS.cell (p := ⟨b, off + 6, none⟩) hbl).trans s6; simp [execOp, go_sem, Act.put, hcf]⟩) hS9 ?_
      refine wpAnyH_forced (i := 9) (by kernel_rfl) rfl rfl ?_
      refine wp_value (v := .slice (some ⟨V9.heap.size, 0, none⟩) 3 3) (w' := V9.alloc (.cells #[.string ⟨w3.toArray⟩, .string ⟨w4.toArray⟩, .string ⟨w6.toArray⟩] 9)) (by simp [execOp, go_sem, Act.put]) ⟨bel_alloc hS9 _, ?_⟩
      refine wpAnyH_forced (i := 10) (by kernel_rfl) rfl rfl ?_
      refine wp_enter (f := 42) (args := #[.slice (some ⟨V9.heap.size, 0, none⟩) 3 3]) (w' := V9.alloc (.cells #[.string ⟨w3.toArray⟩, .string ⟨w4.toArray⟩, .string ⟨w6.toArray⟩] 9)) (R := fun v w2 => ∃ b2 c2, v = .tuple #[.slice (some ⟨b2, 0, none⟩) 3 c2, .bool true] ∧ Below W.heap.size W w2 ∧ w2.ownsRow W.heap.size 3 1 (.slice (some ⟨b2, 0, none⟩) 3 c2) 3 (i64s ns)) (by simp [execOp, go_sem, Act.put]) ?_ ?_
      · refine (numbers_any _ _ _ 3 [w3, w4, w6] rfl (by decide) (SFW.new3 V9 _ _ _ _)).mono ?_
        rintro e V hp
        rw [numsPost_some hN] at hp
        obtain ⟨hbw, v, rfl, ho⟩ := hp
        rw [hLn] at ho
        obtain ⟨b2, c2, rfl, hc2, hb2⟩ := own_cap ho (by omega)
        exact ⟨_, rfl, b2, c2, rfl, bel_trans (bel_alloc hS9 _) hbw, own_mono ho (bel_alloc hS9 _).size⟩
      rintro vt V ⟨b2, c2, rfl, hbV, hown⟩
      refine ⟨hbV, ?_⟩
      refine wpAnyH_take (i := 11) (v := .tuple #[.slice (some ⟨b2, 0, none⟩) 3 c2, .bool true]) rfl (by kernel_rfl) (by kernel_rfl) (by kernel_rfl) (fun _ _ _ h => h) (.inl ⟨rfl, fun w hS => by simp [execOp, go_sem, Act.put]⟩) hbV ?_
      refine wpAnyH_take (i := 12) (v := .slice (some ⟨b2, 0, none⟩) 3 c2) rfl (by kernel_rfl) (by kernel_rfl) (by kernel_rfl) (fun _ _ _ h => h) (.inl ⟨rfl, fun w hS => by simp [execOp, go_sem, Act.put]⟩) hbV ?_
      refine wpAnyH_take (i := 13) (v := .bool true) rfl (by kernel_rfl) (by kernel_rfl) (by kernel_rfl) (fun _ _ _ h => h) (.inl ⟨rfl, fun w hS => by simp [execOp, go_sem, Act.put]⟩) hbV ?_
      refine wpAnyH_take (i := 14) (v := .slice (some ⟨b2, 0, none⟩) 3 c2) rfl (by kernel_rfl) (by kernel_rfl) (by kernel_rfl) (fun _ _ _ h => h) (.inl ⟨rfl, fun w hS => by simp [execOp, go_sem, Act.put]⟩) hbV ?_
      refine wpAnyH_take (i := 15) (v := .bool true) rfl (by kernel_rfl) (by kernel_rfl) (by kernel_rfl) (fun _ _ _ h => h) (.inl ⟨rfl, fun w hS => by simp [execOp, go_sem, Act.put]⟩) hbV ?_
      refine wpAnyH_done (by kernel_rfl) ?_ _
      have HRV := HR.out.below hbV
      have hIV := IF_of_own hown hL.out
      have HIV := Lib.hid hIV
      have hVl := HRV.lt
      have hblV : b < V.heap.size := Nat.lt_of_lt_of_le hbl hbV.size
      have t1 := (hbV.cell (p := ⟨b, off + 1, none⟩) hbl).trans s1
      have t2 := (hbV.cell (p := ⟨b, off + 2, none⟩) hbl).trans s2
      have t5 := (hbV.cell (p := ⟨b, off + 5, none⟩) hbl).trans s5
      have c22 : V.cell? ⟨g, 22, none⟩ = some (.slice A1 sc.skins.length a1) := by rw [← HV.out]; exact HRV.blk.cell 22
      have KN := Lib.hid (fun (U : World) (hb : Below V.heap.size V U) => rep_cage (HRV.below hb) (by have := HI.out.1.skins; omega) name)
      have KM := Lib.hid (fun (U : World) (hb : Below V.heap.size V U) => rep_mat (HRV.below hb) (by have := HI.out.2.1; omega) mat)
      have KT := Lib.hid (fun (U : World) (hb : Below V.heap.size V U) => rep_tex (HRV.below hb) (by have := HI.out.2.2; omega) tex)
      replace hbV := Lib.hid hbV
      replace HRV := Lib.hid HRV
      replace hown := Lib.hid hown
      clear hIV hS0 hS9 s1 s2 s3 s4 s5 s6 CN1 CN2 CN3 hLn
      go_upto_region 8 with fail
      all_goals first | (go_ret; exact readP_err 13 hgl (bel_trans hbV.out (by repeat (first | with_reducible exact Below.refl _ _ | with_reducible refine bel_then ?_ _ | with_reducible refine bel_grow ?_ _ | with_reducible refine bel_alloc ?_ _ | with_reducible refine bel_drew ?_ | with_reducible refine bel_set ?_ (by simp) _ | with_reducible refine bel_setRow ?_ (by first | omega | (simp; done)) _))) (by rw [HF.out, hN]; dsimp only; rw [if_pos (by omega)])) | skip
      have HF2 := Lib.hid (show skinF sc [name, mat, w3, w4, tex, w6] = if (place name (sc.skins.map (·.name))).isSome ∨ place mat (sc.mats.map (·.1)) = none ∨ (tex ≠ kNo ∧ place tex (sc.texs.map (·.1)) = none) then .error 12
        else if (wi ns 0 1 0 2 && wi ns 1 2 1 65536 && wi ns 2 3 0 255) then
          .ok { sc with skins := sc.skins ++ [⟨name, (place mat (sc.mats.map (·.1))).getD 0, ns.getD 0 0, ns.getD 1 0, placeI tex (sc.texs.map (·.1)), ns.getD 2 0⟩], cages := sc.cages ++ [⟨[], [], []⟩] } else .error 11 from by
        rw [HF.out, hN]
        dsimp only
        rw [if_neg (by omega)])
      have HP := Lib.hid (show ((place name (sc.skins.map (·.name))).isSome = true ∨ place mat (sc.mats.map (·.1)) = none ∨ (tex ≠ kNo ∧ place tex (sc.texs.map (·.1)) = none)) ↔ (0 ≤ placeI name (sc.skins.map (·.name)) ∨ placeI mat (sc.mats.map (·.1)) < 0 ∨ (decide (tex = kNo) = false ∧ placeI tex (sc.texs.map (·.1)) < 0)) from by
        have e := fun (nm : Wd) (l : List Wd) => (show (place nm l).isSome = true ↔ 0 ≤ placeI nm l from by unfold placeI; cases place nm l <;> simp)
        have e2 := fun (nm : Wd) (l : List Wd) => (show place nm l = none ↔ placeI nm l < 0 from by unfold placeI; cases place nm l <;> simp)
        rw [e, e2, e2]
        simp)
      rw [hb3.out] at HP
      have hlim : sc.skins.length < 8 := by omega
      have hpm0 : (0 ≤ placeI mat (sc.mats.map (·.1))) → ((place mat (sc.mats.map (·.1))).getD 0 : Int) = placeI mat (sc.mats.map (·.1)) := fun h0 => by
        unfold placeI at h0 ⊢
        cases q : place mat (sc.mats.map (·.1)) with
        | none => rw [q] at h0; simp at h0
        | some i => simp
      replace hpm0 := Lib.hid hpm0
      generalize placeI mat (sc.mats.map (·.1)) = qm at *
      generalize hpt : placeI tex (sc.texs.map (·.1)) = qt at *
      generalize placeI name (sc.skins.map (·.name)) = qk at *
      clear hN HF hpt
      rcases (by omega : 0 ≤ qk ∨ (qk < 0 ∧ qm < 0) ∨ (qk < 0 ∧ 0 ≤ qm ∧ qt < 0) ∨ (qk < 0 ∧ 0 ≤ qm ∧ 0 ≤ qt)) with jk | ⟨jk, jm⟩ | ⟨jk, jm, jt⟩ | ⟨jk, jm, jt⟩
      all_goals go_upto_region 12 with (first | (go_at_call 49; (with_reducible refine (KN.out _ ?_).mono ?_); (repeat (first | with_reducible exact Below.refl _ _ | with_reducible refine bel_then ?_ _ | with_reducible refine bel_grow ?_ _ | with_reducible refine bel_alloc ?_ _ | with_reducible refine bel_drew ?_ | with_reducible refine bel_set ?_ (by simp) _ | with_reducible refine bel_setRow ?_ (by first | omega | (simp; done)) _)); rintro e _ ⟨rfl, y1, rfl⟩) | (go_at_call 48; (with_reducible refine (KM.out _ ?_).mono ?_); (repeat (first | with_reducible exact Below.refl _ _ | with_reducible refine bel_then ?_ _ | with_reducible refine bel_grow ?_ _ | with_reducible refine bel_alloc ?_ _ | with_reducible refine bel_drew ?_ | with_reducible refine bel_set ?_ (by simp) _ | with_reducible refine bel_setRow ?_ (by first | omega | (simp; done)) _)); rintro e _ ⟨rfl, y2, rfl⟩) | (go_at_call 47; (with_reducible refine (KT.out _ ?_).mono ?_); (repeat (first | with_reducible exact Below.refl _ _ | with_reducible refine bel_then ?_ _ | with_reducible refine bel_grow ?_ _ | with_reducible refine bel_alloc ?_ _ | with_reducible refine bel_drew ?_ | with_reducible refine bel_set ?_ (by simp) _ | with_reducible refine bel_setRow ?_ (by first | omega | (simp; done)) _)); rintro e _ ⟨rfl, y3, rfl⟩) | (go_at_call 43; (with_reducible refine (dw_0_1 _ _ 3 _ _ _ ns hL.out (by omega) (by omega) (HIV.out.below (by repeat (first | with_reducible exact Below.refl _ _ | with_reducible refine bel_then ?_ _ | with_reducible refine bel_grow ?_ _ | with_reducible refine bel_alloc ?_ _ | with_reducible refine bel_drew ?_ | with_reducible refine bel_set ?_ (by simp) _ | with_reducible refine bel_setRow ?_ (by first | omega | (simp; done)) _)))).mono ?_); rintro e _ ⟨⟨hw1, rfl⟩ | ⟨hw1, rfl⟩, x3, rfl⟩) | (go_at_call 43; (with_reducible refine (dw_1_2 _ _ 3 _ _ _ ns hL.out (by omega) (by omega) (HIV.out.below (by repeat (first | with_reducible exact Below.refl _ _ | with_reducible refine bel_then ?_ _ | with_reducible refine bel_grow ?_ _ | with_reducible refine bel_alloc ?_ _ | with_reducible refine bel_drew ?_ | with_reducible refine bel_set ?_ (by simp) _ | with_reducible refine bel_setRow ?_ (by first | omega | (simp; done)) _)))).mono ?_); rintro e _ ⟨⟨hw2, rfl⟩ | ⟨hw2, rfl⟩, x3, rfl⟩) | (go_at_call 43; (with_reducible refine (dw_2_3 _ _ 3 _ _ _ ns hL.out (by omega) (by omega) (HIV.out.below (by repeat (first | with_reducible exact Below.refl _ _ | with_reducible refine bel_then ?_ _ | with_reducible refine bel_grow ?_ _ | with_reducible refine bel_alloc ?_ _ | with_reducible refine bel_drew ?_ | with_reducible refine bel_set ?_ (by simp) _ | with_reducible refine bel_setRow ?_ (by first | omega | (simp; done)) _)))).mono ?_); rintro e _ ⟨⟨hw3, rfl⟩ | ⟨hw3, rfl⟩, x3, rfl⟩))
      all_goals first
        | (go_ret; exact readP_err 12 hgl (bel_trans hbV.out (by repeat (first | with_reducible exact Below.refl _ _ | with_reducible refine bel_then ?_ _ | with_reducible refine bel_grow ?_ _ | with_reducible refine bel_alloc ?_ _ | with_reducible refine bel_drew ?_ | with_reducible refine bel_set ?_ (by simp) _ | with_reducible refine bel_setRow ?_ (by first | omega | (simp; done)) _))) (by rw [HF2.out, if_pos (HP.out.2 (by first | exact .inl (by omega) | exact .inr (.inl (by omega)) | exact .inr (.inr ⟨rfl, by omega⟩) | exact .inr (.inr ⟨trivial, by omega⟩) | (right; right; simp; omega) | (simp; omega)))]))
        | (go_ret; exact readP_err 11 hgl (bel_trans hbV.out (by repeat (first | with_reducible exact Below.refl _ _ | with_reducible refine bel_then ?_ _ | with_reducible refine bel_grow ?_ _ | with_reducible refine bel_alloc ?_ _ | with_reducible refine bel_drew ?_ | with_reducible refine bel_set ?_ (by simp) _ | with_reducible refine bel_setRow ?_ (by first | omega | (simp; done)) _))) (by rw [HF2.out, if_neg (fun h => by rcases HP.out.1 h with q | q | q <;> first | omega | (cases q.1; done) | (have := q.2; omega)), if_neg (by first | (rw [hw3]; simp; done) | (rw [hw2]; simp; done) | (rw [hw1]; simp; done))]))
        | skip
      all_goals
        have hqm := hpm0.out jm
        obtain ⟨p0, hp0⟩ : ∃ p, p = ns.getD 0 0 := ⟨_, rfl⟩
        obtain ⟨p1, hp1⟩ : ∃ p, p = ns.getD 1 0 := ⟨_, rfl⟩
        obtain ⟨p2, hp2⟩ : ∃ p, p = ns.getD 2 0 := ⟨_, rfl⟩
        rw [← hp0, ← hp1, ← hp2] at HF2
        obtain ⟨sc1, hsc1⟩ : ∃ s : Scn, s = { sc with skins := sc.skins ++ [(SkinM.mk name ((place mat (sc.mats.map (·.1))).getD 0) p0 p1 qt p2)] } := ⟨_, rfl⟩
        have HS := Lib.hid (show skinF sc [name, mat, w3, w4, tex, w6] = .ok { sc1 with cages := sc1.cages ++ [⟨[], [], []⟩] } by
          rw [HF2.out, if_neg (fun h => by rcases HP.out.1 h with q | q | q <;> first | omega | (cases q.1; done) | (have := q.2; omega)), hw1, hw2, hw3, hsc1]
          rfl)
        have HFS := Lib.hid (show fS (SkinM.mk name ((place mat (sc.mats.map (·.1))).getD 0) p0 p1 qt p2) = [.string ⟨name.toArray⟩, .int .i64 qm, .int .i64 p0, .int .i64 p1, .int .i64 qt, .int .i64 p2] by
          unfold fS
          simp only [hqm])
        have hcg : Hid (sc1.cages = sc.cages) := Lib.hid (by rw [hsc1])
        replace hsc1 := Lib.hid hsc1
        replace hp0 := Lib.hid hp0
        replace hp1 := Lib.hid hp1
        replace hp2 := Lib.hid hp2
        clear HF2 HP hw1 hw2 hw3 hpm0 hqm c22 KN
        refine wp_letter (fun U hUe => ?_)
        have hBU : Below V.heap.size V U := by rw [hUe]; (repeat (first | with_reducible exact Below.refl _ _ | with_reducible refine bel_then ?_ _ | with_reducible refine bel_grow ?_ _ | with_reducible refine bel_alloc ?_ _ | with_reducible refine bel_drew ?_ | with_reducible refine bel_set ?_ (by simp) _ | with_reducible refine bel_setRow ?_ (by first | omega | (simp; done)) _))
        clear hUe
        have hB1U : Below W.heap.size W U := bel_trans hbV.out hBU
        have HRU := HRV.out.below hBU
        have CMx := Lib.hid (fun (x : More) => KM.out (grow U x) (bel_trans hBU (bel_grow (Below.refl _ _) x)))
        have CTx := Lib.hid (fun (x : More) => KT.out (grow U x) (bel_trans hBU (bel_grow (Below.refl _ _) x)))
        have u1 := (hBU.cell (p := ⟨b, off + 1, none⟩) hblV).trans t1
        have u2 := (hBU.cell (p := ⟨b, off + 2, none⟩) hblV).trans t2
        have u5 := (hBU.cell (p := ⟨b, off + 5, none⟩) hblV).trans t5
        have hIU := HIV.out.below hBU
        have d0 : U.cell? ⟨b2, 0, none⟩ = some (.int .i64 p0) := by rw [hp0.out]; exact hIU.atk hL.out 0 (by omega)
        have d1 : U.cell? ⟨b2, 1, none⟩ = some (.int .i64 p1) := by rw [hp1.out]; exact hIU.atk hL.out 1 (by omega)
        have d2 : U.cell? ⟨b2, 2, none⟩ = some (.int .i64 p2) := by rw [hp2.out]; exact hIU.atk hL.out 2 (by omega)
        have hb2U : b2 < U.heap.size := by
          obtain ⟨bb, oo, e, hbb, _⟩ := hIU (by have := hL.out; omega)
          cases e; exact hbb
        have hblU : b < U.heap.size := Nat.lt_of_lt_of_le hblV hBU.size
        have c22 : U.cell? ⟨g, 22, none⟩ = some (.slice A1 sc.skins.length a1) := by rw [← HV.out]; exact HRU.blk.cell 22
        have z22 := HRU.blk.frozen 22
        have hUl := HRU.lt
        have OW : ∀ x, (grow U x).ownsRow g 42 6 (.slice A1 sc.skins.length a1) sc.skins.length (sc.skins.flatMap fS) := by
          intro x; rw [← HV.out]; exact (HRU.grow x).own.row .skins
        replace OW := Lib.hid OW
        replace HRU := Lib.hid HRU
        replace hB1U := Lib.hid hB1U
        have hC8 : Hid (sc.cages.length ≤ 8) := Lib.hid HI.out.1.skins.2
        clear hIU hBU hVl hblV t1 t2 t5 KM KT HIV hown HRV hbV hp0 hp1 hp2 HR
        refine wp_region_makeS_ 29 ?_ (.pointer (some ⟨g, 0, none⟩)) 130 (.cells #[.string ⟨name.toArray⟩, .int .i64 qm, .int .i64 p0, .int .i64 p1, .int .i64 qt, .int .i64 p2] 42) (by kernel_rfl) (by kernel_rfl) (by kernel_rfl) rfl rfl rfl (fun _ _ _ h => h) ?_ (fun x => ?_) (fun x y => ?_)
        rotate_left 2
        · simp only [List.take_succ_cons, List.take_zero, List.tail_cons, Act.put, List.setIfInBounds_toArray, List.set_cons_succ, List.set_cons_zero]
          repeat (go_big_quiet_step (((first | with_reducible exact qq1 (CMx.out _) | with_reducible exact qq2 (CMx.out _) | with_reducible exact qq1 (CTx.out _) | with_reducible exact qq2 (CTx.out _)))))
          refine wpQuiet_nil ?_
          exact rfl
        rotate_left
        · exact ⟨_, rfl, rfl, rfl, fun u => by simp [execOp, go_sem]⟩
        simp only [List.drop_succ_cons, List.drop_zero]
        try simp only [Act.put, List.setIfInBounds_toArray, List.set_cons_succ, List.set_cons_zero]
        go_upto_region 13 with ((at_builtin; go_loud (refine wpList_append_own_at _ rfl _ _ 32 rfl g 42 i0 _ 6 56 Tryd.underlying32 hi0 hz0 hz1 hz2 rfl (by decide) _ _ _ rfl (own_grow ((OW.out _).alloc _) _) ⟨_, 0, none⟩ 1 1 [.string ⟨name.toArray⟩, .int .i64 qm, .int .i64 p0, .int .i64 p1, .int .i64 qt, .int .i64 p2] rfl rfl (cell_newG _ [.string ⟨name.toArray⟩, .int .i64 qm, .int .i64 p0, .int .i64 p1, .int .i64 qt, .int .i64 p2] _ _) (fun u hu => by simp at hu; rcases hu with rfl | rfl | rfl | rfl | rfl | rfl <;> rfl) (by unfold maxLen; omega) (by omega) (Nat.le_trans (Nat.le_of_lt hUl) (@Below.size U.heap.size U _ (by repeat (first | with_reducible exact Below.refl _ _ | with_reducible refine bel_then ?_ _ | with_reducible refine bel_grow ?_ _ | with_reducible refine bel_alloc ?_ _ | with_reducible refine bel_drew ?_ | with_reducible refine bel_set ?_ (by simp) _ | with_reducible refine bel_setRow ?_ (by first | omega | (simp; done)) _)))) ?_); intro v4 w4 hown4 hgr4 hnil4 hat4; clear hnil4; obtain ⟨A4, a4, rfl⟩ := own_form hown4; go_loud (obtain ⟨B4, R4⟩ := HRU.out.skinsP HV.out (SkinM.mk name ((place mat (sc.mats.map (·.1))).getD 0) p0 p1 qt p2) HFS.out _ hgr4 hown4 hat4 (by repeat (first | with_reducible exact Below.refl _ _ | with_reducible refine bel_then ?_ _ | with_reducible refine bel_grow ?_ _ | with_reducible refine bel_alloc ?_ _ | with_reducible refine bel_drew ?_ | with_reducible refine bel_set ?_ (by simp) _ | with_reducible refine bel_setRow ?_ (by first | omega | (simp; done)) _)); have hB4 := fr_app (TR := 61) hB1U.out hgl hgr4 (own_typed (OW.out More.none_)) (by decide) (Nat.le_refl _) HRU.out.blk (fun h => h) 22 (.slice A4 (sc.skins.length + 1) a4) (by repeat (first | with_reducible exact Below.refl _ _ | with_reducible refine bel_then ?_ _ | with_reducible refine bel_grow ?_ _ | with_reducible refine bel_alloc ?_ _ | with_reducible refine bel_drew ?_ | with_reducible refine bel_set ?_ (by simp) _ | with_reducible refine bel_setRow ?_ (by first | omega | (simp; done)) _)); have c4 : w4.cell? ⟨g, 22, none⟩ = some (val .skins) := B4.cell 22; have z4 := B4.frozen 22; replace R4 := Lib.hid R4; replace hB4 := Lib.hid hB4; clear hgr4 hown4 hat4)))
        have hR4 := R4.out
        have hB5 := hB4.out
        generalize hX : World.setCell w4 _ _ = X at hR4 hB5 ⊢
        rw [← hsc1.out] at hR4
        generalize upd val Key.skins _ = val1 at hR4
        clear hX R4 hB4 B4 c4 z4
        obtain ⟨A5, a5, hv5⟩ := own_form (show X.ownsRow g 47 3 (val1 .cages) sc1.cages.length ((cageSS sc1.cages.length val1).flatMap fC) from hR4.own.row .cages)
        have c23 : X.cell? ⟨g, 23, none⟩ = some (.slice A5 sc1.cages.length a5) := by rw [← hv5]; exact hR4.blk.cell 23
        have z23 := hR4.blk.frozen 23
        have hXl := hR4.lt
        have hX8 : sc1.cages.length ≤ 8 := by rw [hcg.out]; exact hC8.out
        clear hcg
        have OWX := Lib.hid (fun (Y : World) (hb : Below X.heap.size X Y) => own_below (show X.ownsRow g 47 3 (.slice A5 sc1.cages.length a5) sc1.cages.length ((cageSS sc1.cages.length val1).flatMap fC) from by rw [← hv5]; exact hR4.own.row .cages) hb)
        replace hR4 := Lib.hid hR4
        replace hv5 := Lib.hid hv5
        replace hB5 := Lib.hid hB5
        obtain ⟨i1, hj0, hy0, hy1, hy2⟩ := info_parts infoCg
        go_wp2_with (at_builtin; go_loud (refine wpList_append_own_at _ rfl _ _ 33 rfl g 47 i1 _ 3 72 Tryd.underlying33 hj0 hy0 hy1 hy2 rfl (by decide) _ _ _ rfl ((OWX.out _ (by repeat (first | with_reducible exact Below.refl _ _ | with_reducible refine bel_then ?_ _ | with_reducible refine bel_grow ?_ _ | with_reducible refine bel_alloc ?_ _ | with_reducible refine bel_drew ?_ | with_reducible refine bel_set ?_ (by simp) _ | with_reducible refine bel_setRow ?_ (by first | omega | (simp; done)) _)))) ⟨_, 0, none⟩ 1 1 [.slice none 0 0, .slice none 0 0, .slice none 0 0] rfl rfl (cell_new _ [.slice none 0 0, .slice none 0 0, .slice none 0 0] _) (fun u hu => by simp at hu; rcases hu with rfl <;> rfl) (by unfold maxLen; omega) (by omega) (Nat.le_trans (Nat.le_of_lt hXl) (@Below.size X.heap.size X _ (by repeat (first | with_reducible exact Below.refl _ _ | with_reducible refine bel_then ?_ _ | with_reducible refine bel_grow ?_ _ | with_reducible refine bel_alloc ?_ _ | with_reducible refine bel_drew ?_ | with_reducible refine bel_set ?_ (by simp) _ | with_reducible refine bel_setRow ?_ (by first | omega | (simp; done)) _)))) ?_); intro v4 w4 hown4 hgr4 hnil4 hat4; clear hnil4; obtain ⟨A4, a4, rfl⟩ := own_form hown4; go_loud (obtain ⟨B5, R5⟩ := hR4.out.cagesP hv5.out _ hgr4 hown4 hat4 (by repeat (first | with_reducible exact Below.refl _ _ | with_reducible refine bel_then ?_ _ | with_reducible refine bel_grow ?_ _ | with_reducible refine bel_alloc ?_ _ | with_reducible refine bel_drew ?_ | with_reducible refine bel_set ?_ (by simp) _ | with_reducible refine bel_setRow ?_ (by first | omega | (simp; done)) _)); have hB6 := fr_app2 hB5.out hXl hgr4 (own_typed (OWX.out _ (Below.refl _ _))) (by decide) hR4.out.blk 23 (.slice A4 (sc1.cages.length + 1) a4) (by repeat (first | with_reducible exact Below.refl _ _ | with_reducible refine bel_then ?_ _ | with_reducible refine bel_grow ?_ _ | with_reducible refine bel_alloc ?_ _ | with_reducible refine bel_drew ?_ | with_reducible refine bel_set ?_ (by simp) _ | with_reducible refine bel_setRow ?_ (by first | omega | (simp; done)) _)); have c5 : w4.cell? ⟨g, 23, none⟩ = some (val1 .cages) := B5.cell 23; have z5 := B5.frozen 23; replace R5 := Lib.hid R5; replace hB6 := Lib.hid hB6; clear hgr4 hown4 hat4))
        go_ret
        exact readP_ok HS.out hB6.out.1 R5.out

end Go.Proofs.YtehmlofhiffanaaDoor
