/- The numbers that the document fixes for layer 5: alive answers true. -/
import Derived.Test.YtdkgbdecmgligaaGreatDoorLexP6
import Derived.Test.YtdkgbdecmgligaaGreatDoorLexP3
import Derived.Test.YtdkgbdecmgligaaGreatDoorMLexP
import Derived.Test.YtdkgbdecmgligaaGreatDoorMLexC
import Derived.Deep.AppendLies
namespace Go.Proofs.YtdkgbdecmgligaaGreatDoor
open Go.RowKit
set_option linter.unusedVariables false
set_option linter.unusedSimpArgs false
def pab (i : Nat) : ByteArray := if i = 0 then ⟨#[97]⟩ else ⟨#[98]⟩
theorem nb_inj : ∀ (a b : List UInt8), nb a = nb b → a = b
  | [], [], _ => rfl
  | [], b :: l, h => by unfold nb at h; simp at h
  | a :: l, [], h => by unfold nb at h; simp at h
  | a :: l, b :: m, h => by
    unfold nb at h
    simp only [List.map_cons, List.cons.injEq] at h
    rw [UInt8.toNat_inj.1 h.1, nb_inj l m h.2]
theorem nbs_inj : ∀ (a b : List (List UInt8)), a.map nb = b.map nb → a = b
  | [], [], _ => rfl
  | [], b :: l, h => by simp at h
  | a :: l, [], h => by simp at h
  | a :: l, b :: m, h => by
    simp only [List.map_cons, List.cons.injEq] at h
    rw [nb_inj a b h.1, nbs_inj l m h.2]
theorem SF_of_own {W : World} {base : Nat} {g n cap : Nat} {l : List (List UInt8)} (h : W.ownsRow base 9 1 (.slice (some ⟨g, 0, none⟩) n cap) n (strs l)) (hl : l.length = n) : SF W (some ⟨g, 0, none⟩) n (fun i => ⟨(l.getD i []).toArray⟩) := fun hn => by
  refine ⟨g, 0, rfl, (h.lt g rfl).2, fun i hi => ?_⟩
  rw [Nat.zero_add, h.cellAt i (by omega), strs_get l i (by omega)]
  simp [List.getD, hl, hi]
theorem lines0 : linesP 1 [] (spl [10, 97, 32, 32, 98, 35, 99, 10]) = .ok [(2, [[97], [98]])] := by kernel_rfl
theorem lines_ab (w : World) (ht : Tabs w) : Calls Tryz.prog 19 #[.string (⟨#[10, 97, 32, 32, 98, 35, 99, 10]⟩ : ByteArray)] w fun e w' => ∃ g c gw cw, e = .returned (.tuple #[.slice (some ⟨g, 0, none⟩) 1 c, .int .i64 0, .int .i64 0]) ∧ Below w.heap.size w w' ∧ g < w'.heap.size ∧ w'.cell? ⟨g, 0, none⟩ = some (.int .i64 2) ∧ w'.cell? ⟨g, 1, none⟩ = some (.slice (some ⟨gw, 0, none⟩) 2 cw) ∧ SF w' (some ⟨gw, 0, none⟩) 2 pab ∧ 1 ≤ c := by
  refine (lLines_any w (⟨#[10, 97, 32, 32, 98, 35, 99, 10]⟩ : ByteArray) (by decide) ht).mono ?_
  rintro e w' ⟨hb, hp⟩
  have e0 : ((⟨#[10, 97, 32, 32, 98, 35, 99, 10]⟩ : ByteArray)).data.toList = [10, 97, 32, 32, 98, 35, 99, 10] := rfl
  rw [e0, lines0] at hp
  obtain ⟨v, ls, rfl, hL, ho⟩ := hp
  rcases ls with _ | ⟨q, _ | ⟨q2, t⟩⟩
  · simp [outOf] at ho
  rotate_left
  · simp [outOf] at ho
  · skip
    unfold outOf at ho
    simp only [List.map_cons, List.map_nil, List.cons.injEq, Prod.mk.injEq, and_true] at ho
    obtain ⟨h2, hw⟩ := ho
    have hw' : q.words = [[97], [98]] := nbs_inj _ _ hw
    obtain ⟨q1, q2, q3, q4⟩ := hL.2 q (by simp)
    rw [hw'] at q4
    obtain ⟨g, c, rfl, hg, hgl⟩ := World.ownsRow.form hL.1 (by simp)
    obtain ⟨gw, cw, hqa, hgw, hgwl⟩ := World.ownsRow.form q4 (by simp)
    rw [hqa] at q4
    have c0 := hL.1.cellAt 0 (by simp)
    have c1 := hL.1.cellAt 1 (by simp)
    unfold lnC at c0 c1
    simp only [List.flatMap_cons, List.flatMap_nil, List.append_nil, List.getElem?_cons_zero, List.getElem?_cons_succ] at c0 c1
    rw [h2] at c0
    rw [hqa] at c1
    have sf := SF_of_own q4 rfl
    refine ⟨g, c, gw, cw, rfl, hb, hgl, c0, c1, fun hn => ?_, ?_⟩
    · obtain ⟨b, off, e1, e2, e3⟩ := sf hn
      refine ⟨b, off, e1, e2, fun i hi => ?_⟩
      rw [e3 i hi]
      match i, hi with
      | 0, _ => rfl
      | 1, _ => rfl
    · obtain ⟨_, h | ⟨g2, cap, cur, h1, _, _, h3, _⟩⟩ := hL.1
      · simp at h
      · injection h1 with _ _ h1; subst h1; simpa using h3
theorem num120 : numV ⟨#[45, 49, 50, 48]⟩ = (-120, true) := by decide +kernel
theorem name_a1 : nameB ⟨#[97, 95, 49]⟩ = true := by decide +kernel
end Go.Proofs.YtdkgbdecmgligaaGreatDoor
