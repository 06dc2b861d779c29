/- The numbers that the document fixes for layer 5: alive answers true. -/
import Derived.Test.YtkekjeggjaefjaaDoorLexP6
import Derived.Test.YtkekjeggjaefjaaDoorLexP3
import Derived.Test.YtkekjeggjaefjaaDoorMLexP
import Derived.Test.YtkekjeggjaefjaaDoorMLexC
import Derived.Deep.AppendLies
namespace Go.Proofs.YtkekjeggjaefjaaDoor
open Go.RowKit
set_option linter.unusedVariables false
set_option linter.unusedSimpArgs false
def pab (i : Nat) : ByteArray := if i = 0 then ⟨#[97]⟩ else ⟨#[98]⟩
theorem nb_inj : ∀ (a b : List UInt8), nb a = nb b → a = b
  | [], [], _ => rfl
  | [], b :: l, h => by unfold nb at h; simp at h
  | a :: l, [], h => by unfold nb at h; simp at h
  | a :: l, b :: m, h => by
    unfold nb at h
    simp only [List.map_cons, List.cons.injEq] at h
    rw [UInt8.toNat_inj.1 h.1, nb_inj l m h.2]
theorem nbs_inj : ∀ (a b : List (List UInt8)), a.map nb = b.map nb → a = b
  | [], [], _ => rfl
  | [], b :: l, h => by simp at h
  | a :: l, [], h => by simp at h
  | a :: l, b :: m, h => by
    simp only [List.map_cons, List.cons.injEq] at h
    rw [nb_inj a b h.1, nbs_inj l m h.2]
theorem SF_of_own {W : World} {base : Nat} {g n cap : Nat} {l : List (List UInt8)} (h : W.ownsRow base 9 1 (.slice (some ⟨g, 0, none⟩) n cap) n (strs l)) (hl : l.length = n) : SF W (some ⟨g, 0, none⟩) n (fun i => ⟨(l.getD i []).toArray⟩) := fun hn => by
  refine ⟨g, 0, rfl, (h.lt g rfl).2, fun i hi => ?_⟩
  rw [Nat.zero_add, h.cellAt i (by omega), strs_get l i (by omega)]
  simp [List.getD, hl, hi]
theorem lines0 : linesP 1 [] (spl [10, 97, 32, 32, 98, 35, 99, 10]) = .ok [(2, [[97], [98]])] := by kernel_rfl
theorem lines_ab (w : World) (ht : Tabs w) : Calls Tryd.prog 10 #[.string (⟨#[10, 97, 32, 32, 98, 35, 99, 10]⟩ : ByteArray)] w fun e w' => ∃ g c gw cw, e = .returned (.tuple #[.slice (some ⟨g, 0, none⟩) 1 c, .int .i64 0, .int .i64 0]) ∧ Below w.heap.size w w' ∧ g < w'.heap.size ∧ w'.cell? ⟨g, 0, none⟩ = some (.int .i64 2) ∧ w'.cell? ⟨g, 1, none⟩ = some (.slice (some ⟨gw, 0, none⟩) 2 cw) ∧ SF w' (some ⟨gw, 0, none⟩) 2 pab ∧ 1 ≤ c := by
  refine (lLines_any w (⟨#[10, 97, 32, 32, 98, 35, 99, 10]⟩ : ByteArray) (by decide) ht).mono ?_
  rintro e w' ⟨hb, hp⟩
  have e0 : ((⟨#[10, 97, 32, 32, 98, 35, 99, 10]⟩ : ByteArray)).data.toList = [10, 97, 32, 32, 98, 35, 99, 10] := rfl
  rw [e0, lines0] at hp
  obtain ⟨v, ls, rfl, hL, ho⟩ := hp
  rcases ls with _ | ⟨q, _ | ⟨q2, t⟩⟩
  · simp [outOf] at ho
  rotate_left
  · simp [outOf] at ho
  · skip
    unfold outOf at ho
    simp only [List.map_cons, List.map_nil, List.cons.injEq, Prod.mk.injEq, and_true] at ho
    obtain ⟨h2, hw⟩ := ho
    have hw' : q.words = [[97], [98]] := nbs_inj _ _ hw
    obtain ⟨q1, q2, q3, q4⟩ := hL.2 q (by simp)
    rw [hw'] at q4
    obtain ⟨g, c, rfl, hg, hgl⟩ := World.ownsRow.form hL.1 (by simp)
    obtain ⟨gw, cw, hqa, hgw, hgwl⟩ := World.ownsRow.form q4 (by simp)
    rw [hqa] at q4
    have c0 := hL.1.cellAt 0 (by simp)
    have c1 := hL.1.cellAt 1 (by simp)
    unfold lnC at c0 c1
    simp only [List.flatMap_cons, List.flatMap_nil, List.append_nil, List.getElem?_cons_zero, List.getElem?_cons_succ] at c0 c1
    rw [h2] at c0
    rw [hqa] at c1
    have sf := SF_of_own q4 rfl
    refine ⟨g, c, gw, cw, rfl, hb, hgl, c0, c1, fun hn => ?_, ?_⟩
    · obtain ⟨b, off, e1, e2, e3⟩ := sf hn
      refine ⟨b, off, e1, e2, fun i hi => ?_⟩
      rw [e3 i hi]
      match i, hi with
      | 0, _ => rfl
      | 1, _ => rfl
    · obtain ⟨_, h | ⟨g2, cap, cur, h1, _, _, h3, _⟩⟩ := hL.1
      · simp at h
      · injection h1 with _ _ h1; subst h1; simpa using h3
theorem num120 : numV ⟨#[45, 49, 50, 48]⟩ = (-120, true) := by decide +kernel
theorem name_a1 : nameB ⟨#[97, 95, 49]⟩ = true := by decide +kernel
set_option maxHeartbeats 1000000 in
theorem alive5_any (w : World) (ht : Tabs w) : Calls Tryd.prog 9 #[] w fun e w' => e = .returned (.bool true) ∧ Below w.heap.size w w' := by
  have cL := lines_ab w ht
  have cN := lNum_any ⟨#[45, 49, 50, 48]⟩
  have cM := lName_any ⟨#[97, 95, 49]⟩
  rw [num120] at cN
  rw [name_a1] at cM
  simp only at cN
  have sl : ∀ W : World, SF (W.alloc (.cells #[.string ⟨#[97]⟩, .string ⟨#[98]⟩] 9)) (some ⟨W.heap.size, 0, none⟩) 2 pab := fun W hn => ⟨W.heap.size, 0, rfl, by simp, fun i hi => by
    have hb := heap_alloc_new W (.cells #[.string ⟨#[97]⟩, .string ⟨#[98]⟩] 9)
    rw [Nat.zero_add, cell_of_row _ _ _ _ _ _ hb]
    match i, hi with
    | 0, _ => rfl
    | 1, _ => rfl⟩
  have st : sameT 2 2 pab pab = true := by decide +kernel
  have cS : ∀ (w1 : World) (gw cw : Nat) (x3 : More), SF w1 (some ⟨gw, 0, none⟩) 2 pab → Calls Tryd.prog 18 #[.slice (some ⟨gw, 0, none⟩) 2 cw, .slice (some ⟨(grow w1 x3).heap.size, 0, none⟩) 2 2] ((grow w1 x3).alloc (.cells #[.string ⟨#[97]⟩, .string ⟨#[98]⟩] 9)) fun e w' => e = .returned (.bool true) ∧ Below w1.heap.size w1 w' := fun w1 gw cw x3 sf => by
    have k := same_any ((grow w1 x3).alloc (.cells #[.string ⟨#[97]⟩, .string ⟨#[98]⟩] 9)) _ _ 2 2 cw 2 pab pab (sf.below (bel_alloc (bel_grow (Below.refl _ _) x3) _)) (sl (grow w1 x3)) (by omega)
    rw [st] at k
    refine k.mono ?_
    rintro e w' ⟨he, x, rfl⟩
    exact ⟨he, bel_grow (bel_alloc (bel_grow (Below.refl _ _) x3) _) x⟩
  clear sl st
  go_enter Tryd.func9, Tryd.ntmps9
  go_wp2_with (first | (go_at_call 10; refine cL.mono ?_; rintro e w1 ⟨g, c, gw, cw, rfl, hb, hgl, c0, c1, sf, hc1⟩) | (go_at_call 13; refine (cN _).mono ?_; rintro e _ ⟨rfl, x3, rfl⟩) | (go_at_call 15; refine (cM _).mono ?_; rintro e _ ⟨rfl, x4, rfl⟩) | (go_at_call 18; refine (cS w1 gw cw x3 sf).mono ?_; rintro e w4 ⟨rfl, hb4⟩))
  go_ret
  exact ⟨rfl, bel_grow (hb.trans (hb4.mono hb.size)) _⟩
end Go.Proofs.YtkekjeggjaefjaaDoor
