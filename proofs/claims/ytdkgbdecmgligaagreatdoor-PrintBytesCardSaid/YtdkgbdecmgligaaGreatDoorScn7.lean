/- The document's own Reader: the line of a sky. -/
import Derived.Test.YtdkgbdecmgligaaGreatDoorMScnS
import Derived.Test.YtdkgbdecmgligaaGreatDoorScn6
namespace Go.Proofs.YtdkgbdecmgligaaGreatDoor
open Go.RowKit
set_option linter.unusedVariables false
set_option linter.unusedSimpArgs false
theorem SFW.tail {W : World} {b off : Nat} {k : Wd} {ws : List Wd} (h : SFW W (some ⟨b, off, none⟩) (k :: ws)) : SFW W (some ⟨b, off + 1, none⟩) ws := by
  intro hn
  obtain ⟨b2, off2, e, hl, hc⟩ := h (by simp)
  cases e
  refine ⟨b, off + 1, rfl, hl, fun i hi => ?_⟩
  have c := hc (i + 1) (by simpa using hi)
  rw [show off + 1 + i = off + (i + 1) by omega]
  simpa using c
theorem gb_set {w w' : World} {g : Nat} (h : w.grownBy w' (some g)) (i : Nat) (u : Value) : w.grownBy (w'.setCell ⟨g, i, none⟩ u) (some g) :=
  h.trans ⟨rfl, rfl, rfl, by simp, fun k _ hne => by
    have : g ≠ k := fun e => hne (by rw [e])
    simp only [World.setCell]
    rw [Array.getElem?_modify]
    simp [this]⟩
theorem gb_grow {w w' : World} {r : Option Nat} (h : w.grownBy w' r) (x : More) : w.grownBy (grow w' x) r :=
  h.trans ⟨(x.kept w').os, (x.kept w').tape, (x.kept w').output, (x.kept w').size, fun j hj _ => (x.kept w').block j hj⟩
theorem IF_but {w W W' : World} {g n c : Nat} {A : Option Addr} {ns : List Int} (h : W.ownsRow w.heap.size 3 1 (.slice A n c) n (i64s ns)) (hn : ns.length = n) (hg : g < w.heap.size) (hb : W.grownBy W' (some g)) : IF W' A ns :=
  IF_of_own (h.kept hb (by
    cases e : (Value.slice A n c).ownBlock with
    | none => exact .inl rfl
    | some k =>
      right
      intro q
      cases q
      have := (h.lt g e).1
      omega)) hn
theorem numsPost_none {w : World} {l : List Wd} (h : numsF l = none) (e : Ending) (w' : World) : numsPost w l e w' = (Below w.heap.size w w' ∧ e = .returned (.tuple #[.slice none 0 0, .bool false])) := by
  unfold numsPost; rw [h]
theorem numsPost_some {w : World} {l : List Wd} {ns : List Int} (h : numsF l = some ns) (e : Ending) (w' : World) : numsPost w l e w' = (Below w.heap.size w w' ∧ ∃ v, e = .returned (.tuple #[v, .bool true]) ∧ w'.ownsRow w.heap.size 3 1 v ns.length (i64s ns)) := by
  unfold numsPost; rw [h]
set_option maxHeartbeats 2000000 in
theorem sky_none (w : World) (g b off c n : Nat) (cs : Array Value) (k : Wd) (ws : List Wd) (hn : ws.length = n) (hl : n ≤ 65537) (hc : n + 1 ≤ c) (hA : SFW w (some ⟨b, off, none⟩) (k :: ws)) (hB : Blk w g 109 cs) (hN : numsF ws = none) :
    Calls Tryz.prog 69 #[.pointer (some ⟨g, 0, none⟩), .slice (some ⟨b, off, none⟩) (n + 1) c] w fun e w' => e = .returned (.int .i64 10) ∧ ∃ x, w' = grow w x := by
  have HN := Lib.hid (fun (e : Ending) (w' : World) => numsPost_none (w := w) hN e w')
  have hT := hA.tail
  have hT0 : n = 0 → ∀ A, SFW w A ws := fun h A hh => by rw [hn] at hh; omega
  go_enter Tryz.func69, Tryz.ntmps69
  go_wp2_with (go_at_call 93; refine (numbers_any _ _ _ n ws hn hl (by first | exact hT | exact hT0 (by omega) _)).mono ?_; rintro e w2 hp; rw [HN.out] at hp; obtain ⟨hbw, rfl⟩ := hp; obtain ⟨x2, rfl⟩ := grow_of hbw)
  all_goals go_ret
  all_goals exact ⟨rfl, grow_of (by repeat (first | with_reducible exact Below.refl _ _ | with_reducible refine bel_then ?_ _ | with_reducible refine bel_grow ?_ _ | with_reducible refine bel_alloc ?_ _ | with_reducible refine bel_drew ?_ | with_reducible refine bel_set ?_ (by simp) _ | with_reducible refine bel_setRow ?_ (by first | omega | (simp; done)) _))⟩
set_option maxHeartbeats 2000000 in
theorem sky_some (w : World) (g b off c n : Nat) (cs : Array Value) (k : Wd) (ws : List Wd) (hn : ws.length = n) (hl : n ≤ 65537) (hc : n + 1 ≤ c) (hA : SFW w (some ⟨b, off, none⟩) (k :: ws)) (hB : Blk w g 109 cs) (hs : cs.size = 26) (sn : Bool) (h25 : cs[25]? = some (.bool sn)) (ns : List Int) (hN : numsF ws = some ns) :
    Calls Tryz.prog 69 #[.pointer (some ⟨g, 0, none⟩), .slice (some ⟨b, off, none⟩) (n + 1) c] w fun e w' => 
      if ns.length = 3 ∧ sn = false ∧ wi ns 0 3 0 255 = true then e = .returned (.int .i64 0) ∧ w.grownBy w' (some g) ∧ Blk w' g 109 ((((cs.setIfInBounds 25 (.bool true)).setIfInBounds 16 (.int .i64 (ns.getD 0 0))).setIfInBounds 17 (.int .i64 (ns.getD 1 0))).setIfInBounds 18 (.int .i64 (ns.getD 2 0)))
      else e = .returned (.int .i64 (if ns.length ≠ 3 then 10 else if sn then 12 else 11)) ∧ ∃ x, w' = grow w x := by
  have HN := Lib.hid (fun (e : Ending) (w' : World) => numsPost_some (w := w) hN e w')
  have c25 := (hB.cell 25).trans h25
  have cell_ : ∀ i, i < 26 → ∃ v, w.cell? ⟨g, i, none⟩ = some v := fun i hi => ⟨_, (hB.cell i).trans (Array.getElem?_eq_getElem (by omega))⟩
  obtain ⟨y16, c16⟩ := cell_ 16 (by omega)
  obtain ⟨y17, c17⟩ := cell_ 17 (by omega)
  obtain ⟨y18, c18⟩ := cell_ 18 (by omega)
  have z25 := hB.frozen 25
  have z16 := hB.frozen 16
  have z17 := hB.frozen 17
  have z18 := hB.frozen 18
  clear cell_
  have hT := hA.tail
  have hT0 : n = 0 → ∀ A, SFW w A ws := fun h A hh => by rw [hn] at hh; omega
  have hgl := hB.lt
  by_cases q : ns.length = 3
  · have HL := Lib.hid q
    have HW := Lib.hid (fun (W : World) (A : Option Addr) (c2 : Nat) (hI : IF W A ns) => within_any W A 3 c2 0 3 0 255 ns q (by omega) (by omega) (by omega) hI)
    have HC := Lib.hid (fun (W : World) (A : Option Addr) (c2 : Nat) (hI : IF W A ns) => color_any W A 3 c2 0 ns q (by omega) (by omega) hI)
    cases sn
    · cases hwi : wi ns 0 3 0 255
      · simp only [q, hwi, and_false, if_false, ne_eq, not_true_eq_false, Bool.false_eq_true, reduceCtorEq]
        rw [hwi] at HW
        clear hwi
        rw [q] at HN
        clear q
        go_enter Tryz.func69, Tryz.ntmps69
        go_wp2_with (first | (go_at_call 93; refine (numbers_any _ _ _ n ws hn hl (by first | exact hT | exact hT0 (by omega) _)).mono ?_; rintro e w2 hp; rw [HN.out] at hp; obtain ⟨hbw, v, rfl, hown⟩ := hp; obtain ⟨x2, rfl⟩ := grow_of hbw; obtain ⟨A2, c2, rfl⟩ := own_form hown; have HI := Lib.hid (IF_of_own hown HL.out)) | (go_at_call 94; refine (HW.out _ A2 c2 (HI.out.below (by repeat (first | with_reducible exact Below.refl _ _ | with_reducible refine bel_then ?_ _ | with_reducible refine bel_grow ?_ _ | with_reducible refine bel_alloc ?_ _ | with_reducible refine bel_drew ?_ | with_reducible refine bel_set ?_ (by simp) _ | with_reducible refine bel_setRow ?_ (by first | omega | (simp; done)) _)))).mono ?_; rintro e _ ⟨rfl, x3, rfl⟩))
        all_goals go_ret
        all_goals exact ⟨rfl, grow_of (by repeat (first | with_reducible exact Below.refl _ _ | with_reducible refine bel_then ?_ _ | with_reducible refine bel_grow ?_ _ | with_reducible refine bel_alloc ?_ _ | with_reducible refine bel_drew ?_ | with_reducible refine bel_set ?_ (by simp) _ | with_reducible refine bel_setRow ?_ (by first | omega | (simp; done)) _))⟩
      · simp only [q, hwi, and_self, if_true]
        rw [hwi] at HW
        clear hwi
        rw [q] at HN
        clear q
        go_enter Tryz.func69, Tryz.ntmps69
        go_wp2_with (first | (go_at_call 93; refine (numbers_any _ _ _ n ws hn hl (by first | exact hT | exact hT0 (by omega) _)).mono ?_; rintro e w2 hp; rw [HN.out] at hp; obtain ⟨hbw, v, rfl, hown⟩ := hp; obtain ⟨x2, rfl⟩ := grow_of hbw; obtain ⟨A2, c2, rfl⟩ := own_form hown; have HI := Lib.hid (IF_of_own hown HL.out)) | (go_at_call 94; refine (HW.out _ A2 c2 (HI.out.below (by repeat (first | with_reducible exact Below.refl _ _ | with_reducible refine bel_then ?_ _ | with_reducible refine bel_grow ?_ _ | with_reducible refine bel_alloc ?_ _ | with_reducible refine bel_drew ?_ | with_reducible refine bel_set ?_ (by simp) _ | with_reducible refine bel_setRow ?_ (by first | omega | (simp; done)) _)))).mono ?_; rintro e _ ⟨rfl, x3, rfl⟩) | (go_at_call 96; refine (HC.out _ A2 c2 (IF_but hown HL.out hgl (by rw [← grow_setCell _ _ _ _ _ hgl]; exact gb_set (gb_grow (World.grownBy.refl _ _) x3) _ _))).mono ?_; rintro e _ ⟨rfl, x4, rfl⟩))
        all_goals go_ret
        all_goals exact ⟨rfl, gb_grow (gb_set (gb_set (gb_set (gb_set (World.grownBy.refl _ _) _ _) _ _) _ _) _ _) _, Blk.grow ((((hB.set 25 _).set 16 _).set 17 _).set 18 _) _⟩
    · simp only [q, and_false, false_and, if_false, ne_eq, not_true_eq_false, reduceCtorEq, if_true]
      rw [q] at HN
      clear q
      go_enter Tryz.func69, Tryz.ntmps69
      go_wp2_with (go_at_call 93; refine (numbers_any _ _ _ n ws hn hl (by first | exact hT | exact hT0 (by omega) _)).mono ?_; rintro e w2 hp; rw [HN.out] at hp; obtain ⟨hbw, v, rfl, hown⟩ := hp; obtain ⟨x2, rfl⟩ := grow_of hbw; obtain ⟨A2, c2, rfl⟩ := own_form hown)
      all_goals go_ret
      all_goals exact ⟨rfl, grow_of (by repeat (first | with_reducible exact Below.refl _ _ | with_reducible refine bel_then ?_ _ | with_reducible refine bel_grow ?_ _ | with_reducible refine bel_alloc ?_ _ | with_reducible refine bel_drew ?_ | with_reducible refine bel_set ?_ (by simp) _ | with_reducible refine bel_setRow ?_ (by first | omega | (simp; done)) _))⟩
  · simp only [q, false_and, if_false, ne_eq, not_false_eq_true, if_true]
    have hlen : ∀ m : Nat, m = ns.length → (((m : Int) == 3) = false ∧ ((m : Int) = 3) = False) := fun m h => by subst h; constructor <;> (simp; omega)
    generalize hm : ns.length = m at *
    have hl3 := hlen m rfl
    clear hlen
    go_enter Tryz.func69, Tryz.ntmps69
    go_wp2_with (go_at_call 93; refine (numbers_any _ _ _ n ws hn hl (by first | exact hT | exact hT0 (by omega) _)).mono ?_; rintro e w2 hp; rw [HN.out] at hp; obtain ⟨hbw, v, rfl, hown⟩ := hp; obtain ⟨x2, rfl⟩ := grow_of hbw; obtain ⟨A2, c2, rfl⟩ := own_form hown)
    all_goals go_ret
    all_goals exact ⟨rfl, grow_of (by repeat (first | with_reducible exact Below.refl _ _ | with_reducible refine bel_then ?_ _ | with_reducible refine bel_grow ?_ _ | with_reducible refine bel_alloc ?_ _ | with_reducible refine bel_drew ?_ | with_reducible refine bel_set ?_ (by simp) _ | with_reducible refine bel_setRow ?_ (by first | omega | (simp; done)) _))⟩
end Go.Proofs.YtdkgbdecmgligaaGreatDoor
