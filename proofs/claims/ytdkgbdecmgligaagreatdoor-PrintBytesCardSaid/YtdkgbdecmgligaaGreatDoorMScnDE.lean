/- The scenes that the document fixes for layer 6: alive answers true. -/
import Derived.Test.YtdkgbdecmgligaaGreatDoorScnQI
import Derived.Test.YtdkgbdecmgligaaGreatDoorLexA
import Derived.Test.YtdkgbdecmgligaaGreatDoorMScnMB
import Derived.Test.YtdkgbdecmgligaaGreatDoorScnF
import Derived.Test.YtdkgbdecmgligaaGreatDoorLexT
import Derived.Deep.MidRow
import Derived.Test.YtdkgbdecmgligaaGreatDoorLeaf
import Derived.Test.YtdkgbdecmgligaaGreatDoorProg
import Derived.ChangeMaps5
import Derived.Test.YtdkgbdecmgligaaGreatDoorBase
import Derived.ProofKit
import Derived.OpenShut
import Derived.Carry
namespace Go.Proofs.YtdkgbdecmgligaaGreatDoor
open Go.RowKit
set_option linter.unusedVariables false
set_option linter.unusedSimpArgs false
set_option linter.unnecessarySimpa false

def sc1 : Scn := ⟨some [0, 0, -9, 0, 0, 8, 1, 0, 0, 0, 1, 0, 2, 2, 1, 0], none, [], [([109], [1, 2, 3, 0, 1, 0, 0, 256])], [], [⟨[99], 0, 1, 5, -1, 0⟩], [⟨[[1, 2, 3]], [], []⟩]⟩
def al1 : List UInt8 := "camera 0 0 -9 0 0 8 1 0 0 0 1 0 2 2 1 0\nmaterial m 1 2 3 0 1 0 0 256\ncage c m 1 5 - 0\nv 1 2 3\n".toUTF8.data.toList
def al2 : List UInt8 := "\nlight 1".toUTF8.data.toList
def al3 : List UInt8 := "sky 1 2 3".toUTF8.data.toList
theorem al1_sc : sceneT al1 = .ok sc1 := by kernel_rfl
theorem al2_sc : sceneT al2 = .error (2, 10) := by kernel_rfl
theorem al3_sc : sceneT al3 = .error (0, 15) := by kernel_rfl
theorem parse_al1 (w : World) (s : ByteArray) (e0 : s.data.toList = al1) (ht : Tabs w) : Calls Tryz.prog 11 #[.string s] w fun e w' => ∃ (L M T : Value) (bS cS bC cC bv cv : Nat), e = .returned (.tuple #[.agg #[.int .i64 0, .int .i64 0, .int .i64 (-9), .int .i64 0, .int .i64 0, .int .i64 8, .int .i64 1, .int .i64 0, .int .i64 0, .int .i64 0, .int .i64 1, .int .i64 0, .int .i64 2, .int .i64 2, .int .i64 1, .int .i64 0, .int .i64 0, .int .i64 0, .int .i64 0, L, M, T, .slice (some ⟨bS, 0, none⟩) 1 cS, .slice (some ⟨bC, 0, none⟩) 1 cC], .int .i64 0, .int .i64 0]) ∧ Below w.heap.size w w' ∧ bS < w'.heap.size ∧ bC < w'.heap.size ∧ w'.cell? ⟨bS, 4, none⟩ = some (.int .i64 (-1)) ∧ w'.cell? ⟨bC, 0, none⟩ = some (.slice (some ⟨bv, 0, none⟩) 1 cv) ∧ ((#[.int .i64 0, .int .i64 0, .int .i64 (-9), .int .i64 0, .int .i64 0, .int .i64 8, .int .i64 1, .int .i64 0, .int .i64 0, .int .i64 0, .int .i64 1, .int .i64 0, .int .i64 2, .int .i64 2, .int .i64 1, .int .i64 0, .int .i64 0, .int .i64 0, .int .i64 0, L, M, T, .slice (some ⟨bS, 0, none⟩) 1 cS, .slice (some ⟨bC, 0, none⟩) 1 cC] : Array Value)).all (·.oneCell') = true := by
  have hz : s.size ≤ 65536 := by
    have : s.size = al1.length := by rw [← e0]; rfl
    rw [this]
    exact of_decide_eq_true (by kernel_rfl)
  refine (parse_any w s hz ht).mono ?_
  rintro e w' ⟨hb, hp⟩
  rw [e0, al1_sc] at hp
  obtain ⟨g, val, rfl, hg, hR⟩ := hp
  have rS := show w'.ownsRow g 55 6 (val .skins) 1 _ from hR.own.row .skins
  have rC := show w'.ownsRow g 48 3 (val .cages) 1 _ from hR.own.row .cages
  have rv := show w'.ownsRow g 23 3 (val (.vert 0)) 1 _ from hR.own.row (.vert 0)
  obtain ⟨A1, c1, e1⟩ := own_form (show w'.ownsRow g 76 6 (val .lights) _ _ from hR.own.row .lights)
  obtain ⟨A2, c2, e2⟩ := own_form (show w'.ownsRow g 53 9 (val .mats) _ _ from hR.own.row .mats)
  obtain ⟨A3, c3, e3⟩ := own_form (show w'.ownsRow g 51 4 (val .texs) _ _ from hR.own.row .texs)
  obtain ⟨bS, cS, eS, _, hS⟩ := World.ownsRow.form rS (by simp)
  obtain ⟨bC, cC, eC, _, hC⟩ := World.ownsRow.form rC (by simp)
  obtain ⟨bv, cv, ev, _, _⟩ := World.ownsRow.form rv (by simp)
  rw [eS] at rS
  rw [eC] at rC
  refine ⟨val .lights, val .mats, val .texs, bS, cS, bC, cC, bv, cv, ?_, hb, hS, hC, ?_, ?_, ?_⟩
  · rw [← eS, ← eC]
    rfl
  · rw [rS.cellAt 4 (by simp [sc1])]
    rfl
  · rw [rC.cellAt 0 (by simp [sc1, cageSS, fC]), ← ev]
    rfl
  · rw [e1, e2, e3]
    simp [Value.oneCell']
theorem parse_al2 (w : World) (s : ByteArray) (e0 : s.data.toList = al2) (ht : Tabs w) : Calls Tryz.prog 11 #[.string s] w fun e w' => e = .returned (.tuple #[.agg scZ, .int .i64 2, .int .i64 10]) ∧ Below w.heap.size w w' := by
  have hz : s.size ≤ 65536 := by
    have : s.size = al2.length := by rw [← e0]; rfl
    rw [this]
    exact of_decide_eq_true (by kernel_rfl)
  refine (parse_any w s hz ht).mono ?_
  rintro e w' ⟨hb, hp⟩
  rw [e0, al2_sc] at hp
  exact ⟨hp, hb⟩
theorem parse_al3 (w : World) (s : ByteArray) (e0 : s.data.toList = al3) (ht : Tabs w) : Calls Tryz.prog 11 #[.string s] w fun e w' => e = .returned (.tuple #[.agg scZ, .int .i64 0, .int .i64 15]) ∧ Below w.heap.size w w' := by
  have hz : s.size ≤ 65536 := by
    have : s.size = al3.length := by rw [← e0]; rfl
    rw [this]
    exact of_decide_eq_true (by kernel_rfl)
  refine (parse_any w s hz ht).mono ?_
  rintro e w' ⟨hb, hp⟩
  rw [e0, al3_sc] at hp
  exact ⟨hp, hb⟩
end Go.Proofs.YtdkgbdecmgligaaGreatDoor

/- Layer 6: alive answers true. -/
namespace Go.Proofs.YtdkgbdecmgligaaGreatDoor
open Go.RowKit
set_option linter.unusedVariables false
set_option linter.unusedSimpArgs false
set_option linter.unnecessarySimpa false

/-- A scene's variable is made and stored into. -/
theorem scene_var (w W1 : World) (cs : Array Value) (hb : Below w.heap.size w W1) : Below w.heap.size w (W1.alloc (.cells cs 34)) := bel_alloc hb _
end Go.Proofs.YtdkgbdecmgligaaGreatDoor

/- For the laws of layer 6: what Parse answers, told by its numbers. -/
namespace Go.Proofs.YtdkgbdecmgligaaGreatDoor
open Go.RowKit
set_option linter.unusedVariables false
set_option linter.unusedSimpArgs false
set_option linter.unnecessarySimpa false

theorem sceneT_inv {l : List UInt8} {sc : Scn} (h : sceneT l = .ok sc) : InvS sc ∧ sc.cam ≠ none := by
  unfold sceneT at h
  cases q : linesP 1 [] (spl l) with
  | error n => rw [q] at h; cases h
  | ok o => rw [q] at h; exact inv_scene h
/-- An answer: a scene's cells, a line, an error; the width, if there is a scene. -/
def resP (w : World) (n k : Int) (e : Ending) (w' : World) : Prop := ∃ (cs : Array Value) (x : Int), e = .returned (.tuple #[.agg cs, .int .i64 n, .int .i64 k]) ∧ Below w.heap.size w w' ∧ cs.size = 24 ∧ cs.all (·.oneCell') = true ∧ cs[12]? = some (.int .i64 x) ∧ (k = 0 → 0 < x)
theorem parse_err (s : ByteArray) (hs : s.size ≤ 65536) (n k : Nat) (hk : 10 ≤ k) (h : sceneT s.data.toList = .error (n, k)) (w : World) (ht : Tabs w) : Calls Tryz.prog 11 #[.string s] w fun e w' => resP w (n : Int) (k : Int) e w' := by
  refine (parse_any w s hs ht).mono ?_
  rintro e w' ⟨hb, hp⟩
  rw [h] at hp
  exact ⟨scZ, 0, hp, hb, rfl, scZ_one, rfl, fun h => by omega⟩
theorem parse_ok (s : ByteArray) (hs : s.size ≤ 65536) (sc : Scn) (h : sceneT s.data.toList = .ok sc) (w : World) (ht : Tabs w) : Calls Tryz.prog 11 #[.string s] w fun e w' => resP w 0 0 e w' := by
  refine (parse_any w s hs ht).mono ?_
  rintro e w' ⟨hb, hp⟩
  rw [h] at hp
  obtain ⟨g, val, rfl, hg, hR⟩ := hp
  obtain ⟨hi, hc⟩ := sceneT_inv h
  refine ⟨sceneV sc val, (camN sc).getD 12 0, rfl, hb, rfl, hR.one, rfl, fun _ => ?_⟩
  unfold camN
  cases q : sc.cam with
  | none => exact absurd q hc
  | some n => have := (hi.cam n q).2.1.1; simp only [Option.getD_some]; omega
/-- What two texts, one with a line more, may answer. -/
def frontsP (n k m f : Int) (no : Nat) : Prop :=
  (k ≠ 0 ∧ n ≠ 0 ∧ ((f = k ∧ m = n) ∨ f = 10)) ∨ (k = 15 ∧ n = 0 ∧ f ≠ 0 ∧ (m = (no : Int) ∨ (f = 15 ∧ m = 0))) ∨ (k = 15 ∧ n = 0 ∧ f = 0) ∨ (k = 0 ∧ n = 0 ∧ f ≠ 0 ∧ m = (no : Int)) ∨ (k = 0 ∧ n = 0 ∧ f = 0)
theorem fronts_calls (s t : ByteArray) (hs : s.size ≤ 5000) (htl : t.size ≤ 1000) (ht : ∀ c ∈ t.data.toList, c ≠ 10) :
    ∃ n k m f : Int, (∀ w : World, Tabs w → Calls Tryz.prog 11 #[.string s] w fun e w' => resP w n k e w') ∧ (∀ w : World, Tabs w → Calls Tryz.prog 11 #[.string (s ++ (⟨#[10]⟩ : ByteArray) ++ t)] w fun e w' => resP w m f e w') ∧ frontsP n k m f (ends (nb s.data.toList) + 2) := by
  have h1 : s.size ≤ 65536 := by omega
  have h2 : (s ++ (⟨#[10]⟩ : ByteArray) ++ t).size ≤ 65536 := by
    have : (s ++ (⟨#[10]⟩ : ByteArray) ++ t).size = s.size + 1 + t.size := by simp [ByteArray.size_append]; rfl
    omega
  rcases fronts_run s t ht with ⟨n, e, q1, q2, q3, q4 | ⟨m, q4⟩⟩ | ⟨q1, ⟨e, q3, q4⟩ | q4 | ⟨sc, q4⟩⟩ | ⟨sc, q1, ⟨e, q3, q4⟩ | ⟨sc2, q4⟩⟩
  · exact ⟨n, e, n, e, parse_err s h1 n e q3.1 q1, parse_err _ h2 n e q3.1 q4, .inl ⟨by omega, by omega, .inl ⟨rfl, rfl⟩⟩⟩
  · exact ⟨n, e, m, (10 : Nat), parse_err s h1 n e q3.1 q1, parse_err _ h2 m 10 (by omega) q4, .inl ⟨by omega, by omega, .inr rfl⟩⟩
  · exact ⟨(0 : Nat), (15 : Nat), _, e, parse_err s h1 0 15 (by omega) q1, parse_err _ h2 _ e q3.1 q4, .inr (.inl ⟨rfl, rfl, by omega, .inl rfl⟩)⟩
  · exact ⟨(0 : Nat), (15 : Nat), (0 : Nat), (15 : Nat), parse_err s h1 0 15 (by omega) q1, parse_err _ h2 0 15 (by omega) q4, .inr (.inl ⟨rfl, rfl, by omega, .inr ⟨rfl, rfl⟩⟩)⟩
  · exact ⟨(0 : Nat), (15 : Nat), 0, 0, parse_err s h1 0 15 (by omega) q1, parse_ok _ h2 sc q4, .inr (.inr (.inl ⟨rfl, rfl, rfl⟩))⟩
  · exact ⟨0, 0, _, e, parse_ok s h1 sc q1, parse_err _ h2 _ e q3.1 q4, .inr (.inr (.inr (.inl ⟨rfl, rfl, by omega, rfl⟩)))⟩
  · exact ⟨0, 0, 0, 0, parse_ok s h1 sc q1, parse_ok _ h2 sc2 q4, .inr (.inr (.inr (.inr ⟨rfl, rfl, rfl⟩)))⟩
end Go.Proofs.YtdkgbdecmgligaaGreatDoor

/- Out of a scene that Parse answers: the rows' cells, one thing at a time. -/
namespace Go.Proofs.YtdkgbdecmgligaaGreatDoor
open Go.RowKit
set_option linter.unusedVariables false
set_option linter.unusedSimpArgs false
set_option linter.unnecessarySimpa false

section
variable {g : Nat} {W : World} {TR : TypeId} {sc : Scn} {val : Key → Value}
theorem range_row {W : World} {base : Nat} {T : TypeId} {sz n b c : Nat} {α : Type} (f : α → List Value) (hf : ∀ a, (f a).length = sz) (l : List α) (hl : l.length = n) (h : W.ownsRow base T sz (.slice (some ⟨b, 0, none⟩) n c) n (l.flatMap f)) (i : Nat) (hi : i < l.length) : W.rangeAt b (i * sz) (f l[i]) := fun j v hj => by
  have hj2 : j < sz := by rw [← hf l[i]]; exact (List.getElem?_eq_some_iff.1 hj).1
  have hlt : i * sz + j < n * sz := by
    have : (i + 1) * sz ≤ n * sz := Nat.mul_le_mul_right _ (by omega)
    rw [Nat.succ_mul] at this
    omega
  rw [h.cellAt _ hlt, flat_get f sz hf l i hi j hj2]
  exact hj
theorem RepV.skin_at (h : RepV g W g TR sc val) (i : Nat) (hi : i < sc.skins.length) : ∃ b c, val .skins = .slice (some ⟨b, 0, none⟩) sc.skins.length c ∧ W.rangeAt b (i * 6) (fS sc.skins[i]) := by
  have r := show W.ownsRow g 55 6 (val .skins) sc.skins.length (sc.skins.flatMap fS) from h.own.row .skins
  obtain ⟨b, c, e, _, _⟩ := World.ownsRow.form r (by omega)
  rw [e] at r
  exact ⟨b, c, e, range_row fS (fun _ => rfl) sc.skins rfl r i hi⟩
theorem RepV.cage_at (h : RepV g W g TR sc val) (i : Nat) (hi : i < sc.cages.length) : ∃ b c, val .cages = .slice (some ⟨b, 0, none⟩) sc.cages.length c ∧ W.rangeAt b (i * 3) [val (.vert i), val (.face i), val (.crease i)] := by
  have r := show W.ownsRow g 48 3 (val .cages) sc.cages.length ((cageSS sc.cages.length val).flatMap fC) from h.own.row .cages
  obtain ⟨b, c, e, _, _⟩ := World.ownsRow.form r (by omega)
  rw [e] at r
  have hl : (cageSS sc.cages.length val).length = sc.cages.length := by unfold cageSS; simp
  have k := range_row fC (fun _ => rfl) (cageSS sc.cages.length val) hl r i (by omega)
  have e2 : (cageSS sc.cages.length val)[i]'(by omega) = (val (.vert i), val (.face i), val (.crease i)) := by unfold cageSS; simp
  rw [e2] at k
  exact ⟨b, c, e, k⟩
theorem RepV.vert_form (h : RepV g W g TR sc val) (i : Nat) : ∃ A c, val (.vert i) = .slice A (cageAt sc i).verts.length c :=
  own_form (show W.ownsRow g 23 3 (val (.vert i)) _ _ from h.own.row (.vert i))
theorem RepV.face_form (h : RepV g W g TR sc val) (i : Nat) : ∃ A c, val (.face i) = .slice A (cageAt sc i).faces.length c :=
  own_form (show W.ownsRow g 49 1 (val (.face i)) _ _ from h.own.row (.face i))
theorem RepV.face_at (h : RepV g W g TR sc val) (i f : Nat) (hf : f < (cageAt sc i).faces.length) : ∃ b c, val (.face i) = .slice (some ⟨b, 0, none⟩) (cageAt sc i).faces.length c ∧ W.cell? ⟨b, f, none⟩ = some (val (.frow i f)) ∧ b < W.heap.size := by
  have r := show W.ownsRow g 49 1 (val (.face i)) (cageAt sc i).faces.length ((List.range (cageAt sc i).faces.length).map fun j => val (.frow i j)) from h.own.row (.face i)
  obtain ⟨b, c, e, _, hb⟩ := World.ownsRow.form r (by omega)
  rw [e] at r
  refine ⟨b, c, e, ?_, hb⟩
  rw [r.cellAt f (by omega)]
  simp [hf]
theorem RepV.frow_form (h : RepV g W g TR sc val) (i f : Nat) : ∃ A c, val (.frow i f) = .slice A ((cageAt sc i).faces.getD f []).length c := by
  have r := show roRow W g 3 (val (.frow i f)) ((cageAt sc i).faces.getD f []).length (i64s ((cageAt sc i).faces.getD f [])) from h.own.row (.frow i f)
  rcases r.2 with ⟨e, e2⟩ | ⟨b, off, cap, cur, e, _⟩
  · exact ⟨none, 0, by rw [e, e2]⟩
  · exact ⟨_, _, e⟩
theorem RepV.frow_at (h : RepV g W g TR sc val) (i f j : Nat) (hj : j < ((cageAt sc i).faces.getD f []).length) : ∃ b off c, val (.frow i f) = .slice (some ⟨b, off, none⟩) ((cageAt sc i).faces.getD f []).length c ∧ W.cell? ⟨b, off + j, none⟩ = some (.int .i64 (((cageAt sc i).faces.getD f []).getD j 0)) := by
  have r := show roRow W g 3 (val (.frow i f)) ((cageAt sc i).faces.getD f []).length (i64s ((cageAt sc i).faces.getD f [])) from h.own.row (.frow i f)
  rcases r.2 with ⟨e, e2⟩ | ⟨b, off, cap, cur, e, _, hc, hx⟩
  · omega
  · refine ⟨b, off, cap, e, ?_⟩
    rw [cell_of_row _ _ _ _ _ _ hc, hx j hj, i64s_get _ _ hj]
/-- What the bounds say of cage i. -/
theorem inv_cage {sc : Scn} (h : InvS sc) (i : Nat) (hi : i < sc.cages.length) : (cageAt sc i).verts.length ≤ 64 ∧ (cageAt sc i).faces.length ≤ 64 ∧ ∀ f j, f < (cageAt sc i).faces.length → j < ((cageAt sc i).faces.getD f []).length → 0 ≤ ((cageAt sc i).faces.getD f []).getD j 0 ∧ ((cageAt sc i).faces.getD f []).getD j 0 < ((cageAt sc i).verts.length : Int) := by
  have e : cageAt sc i = sc.cages[i] := by unfold cageAt; simp [List.getD, hi]
  rw [e]
  obtain ⟨h1, h2, h3⟩ := h.cage sc.cages[i] (List.getElem_mem hi)
  refine ⟨h1, h2, fun f j hf hj => ?_⟩
  have ef : sc.cages[i].faces.getD f [] = sc.cages[i].faces[f] := by simp [List.getD, hf]
  rw [ef] at hj ⊢
  have ej : sc.cages[i].faces[f].getD j 0 = sc.cages[i].faces[f][j] := by simp [List.getD, hj]
  rw [ej]
  exact h3 _ (List.getElem_mem hf) _ (List.getElem_mem hj)
end
end Go.Proofs.YtdkgbdecmgligaaGreatDoor

/- What all scenes that are read have: enough to be told again (math). -/
namespace Go.Proofs.YtdkgbdecmgligaaGreatDoor
set_option linter.unusedVariables false
set_option linter.unusedSimpArgs false
set_option linter.unnecessarySimpa false
structure GoodC (c : CageM) : Prop where
  nv : c.verts.length ≤ 64
  verts : ∀ n ∈ c.verts, n.length = 3 ∧ wi n 0 3 (-16384) 16384 = true
  nf : c.faces.length ≤ 64
  faces : ∀ n ∈ c.faces, 3 ≤ n.length ∧ n.length ≤ 8 ∧ wi n 0 n.length 0 ((c.verts.length : Int) - 1) = true
  nc : c.creases.length ≤ 128
  creases : ∀ n ∈ c.creases, n.length = 3 ∧ wi n 0 2 0 ((c.verts.length : Int) - 1) = true ∧ n.getD 0 0 ≠ n.getD 1 0 ∧ wi n 2 3 1 255 = true
structure Good (sc : Scn) : Prop where
  cam : ∀ n, sc.cam = some n → n.length = 16 ∧ (wi n 0 6 (-16384) 16384 && wi n 6 12 (-32) 32 && wi n 12 14 1 64 && wi n 14 15 1 4 && wi n 15 16 0 8) = true
  sky : ∀ n, sc.sky = some n → n.length = 3 ∧ wi n 0 3 0 255 = true
  nl : sc.lights.length ≤ 4
  lights : ∀ n ∈ sc.lights, n.length = 6 ∧ (wi n 0 3 (-16384) 16384 && wi n 3 6 0 255) = true
  nt : sc.texs.length ≤ 4
  tn : (sc.texs.map (·.1)).Nodup
  texs : ∀ q ∈ sc.texs, isN q.1 = true ∧ 2 ≤ q.2.length ∧ q.2.getD 0 0 * q.2.getD 1 0 = (q.2.length : Int) - 2 ∧ (wi q.2 0 2 1 16 && wi q.2 2 q.2.length 0 255) = true
  nm : sc.mats.length ≤ 8
  mn : (sc.mats.map (·.1)).Nodup
  mats : ∀ q ∈ sc.mats, isN q.1 = true ∧ q.2.length = 8 ∧ (wi q.2 0 3 0 255 && wi q.2 3 4 0 256 && wi q.2 4 5 1 64 && wi q.2 5 7 0 256 && decide (q.2.getD 5 0 + q.2.getD 6 0 ≤ 256) && wi q.2 7 8 64 1024) = true
  ns : sc.skins.length = sc.cages.length ∧ sc.cages.length ≤ 8
  sn : (sc.skins.map (·.name)).Nodup
  skins : ∀ k ∈ sc.skins, isN k.name = true ∧ k.mat < sc.mats.length ∧ -1 ≤ k.tex ∧ k.tex < sc.texs.length ∧ (0 ≤ k.levels ∧ k.levels ≤ 2) ∧ (1 ≤ k.unit ∧ k.unit ≤ 65536) ∧ 0 ≤ k.height ∧ k.height ≤ 255
  cages : ∀ c ∈ sc.cages, GoodC c
theorem place_notin (name : Wd) : ∀ l : List Wd, place name l = none → name ∉ l
  | [], _, h => by cases h
  | x :: l, h, hm => by
    unfold place at h
    split at h
    · cases h
    · rename_i hx
      rcases List.mem_cons.1 hm with e | hm
      · exact hx e.symm
      · cases q : place name l with
        | none => exact place_notin name l q hm
        | some i => rw [q] at h; cases h
theorem nodup_snoc {l : List Wd} {x : Wd} (h : l.Nodup) (hx : x ∉ l) : (l ++ [x]).Nodup := by
  rw [List.nodup_append]
  refine ⟨h, by simp, fun a ha b hb e => ?_⟩
  rw [List.mem_singleton] at hb
  subst hb
  subst e
  exact hx ha
theorem wi_mono {n : List Int} {a b : Nat} {lo hi hi' : Int} (h : wi n a b lo hi = true) (hh : hi ≤ hi') : wi n a b lo hi' = true := by
  unfold wi at *
  rw [List.all_eq_true] at *
  intro x hx
  have := h x hx
  simp only [Bool.and_eq_true, decide_eq_true_eq] at *
  omega
theorem good0 : Good scn0 :=
  ⟨(fun n h => by cases h), (fun n h => by cases h), by decide, (fun n h => by cases h), by decide, by decide, (fun n h => by cases h), by decide, by decide, (fun n h => by cases h), ⟨rfl, by decide⟩, by decide, (fun n h => by cases h), (fun n h => by cases h)⟩
theorem goodC0 : GoodC ⟨[], [], []⟩ := ⟨by decide, (fun n h => by cases h), by decide, (fun n h => by cases h), by decide, (fun n h => by cases h)⟩
theorem all_snoc {α : Type} {P : α → Prop} {l : List α} {x : α} (h : ∀ a ∈ l, P a) (hx : P x) : ∀ a ∈ l ++ [x], P a := fun a ha => by
  rcases List.mem_append.1 ha with ha | ha
  · exact h a ha
  · rw [List.mem_singleton] at ha; subst ha; exact hx
theorem good_last {sc : Scn} (h : Good sc) {c : CageM} (hc : sc.cages.getLast? = some c) (f : CageM → CageM) (hf : GoodC (f c)) : Good { sc with cages := onLast f sc.cages } := by
  obtain ⟨ys, e1, e2⟩ := onLast_at (f := f) hc
  have hl : (onLast f sc.cages).length = sc.cages.length := onLast_len f _ c hc
  refine ⟨h.cam, h.sky, h.nl, h.lights, h.nt, h.tn, h.texs, h.nm, h.mn, h.mats, ⟨h.ns.1.trans hl.symm, by show (onLast f sc.cages).length ≤ 8; rw [hl]; exact h.ns.2⟩, h.sn, h.skins, ?_⟩
  show ∀ c ∈ onLast f sc.cages, GoodC c
  rw [e2]
  exact all_snoc (fun a ha => h.cages a (by rw [e1]; simp [ha])) hf
theorem last_mem {l : List CageM} {c : CageM} (h : l.getLast? = some c) : c ∈ l := by
  obtain ⟨ys, rfl⟩ := List.getLast?_eq_some_iff.1 h
  simp
theorem good_adds {sc sc' : Scn} {ws : List Wd} (a : Adds sc ws sc') (h : Good sc) : Good sc' := by
  cases a with
  | camera ws n h1 h2 h3 h4 =>
    exact { h with cam := fun m hm => by simp only [Option.some.injEq] at hm; subst hm; exact ⟨h2, h4⟩ }
  | sky ws n h1 h2 h3 h4 =>
    exact { h with sky := fun m hm => by simp only [Option.some.injEq] at hm; subst hm; exact ⟨h2, h4⟩ }
  | light ws n h1 h2 h3 h4 =>
    exact { h with nl := by simp; omega, lights := all_snoc h.lights ⟨h2, h4⟩ }
  | texture name ws n h1 h2 h3 h4 h5 h6 h7 =>
    have hl := numsF_len _ _ h1
    exact { h with
      nt := by simp; omega
      tn := by simp only [List.map_append, List.map_cons, List.map_nil]; exact nodup_snoc h.tn (place_notin _ _ h6)
      texs := all_snoc h.texs ⟨h2, by show 2 ≤ n.length; omega, h4, h7⟩
      skins := fun k hk => by
        obtain ⟨a1, a2, a3, a4, a5⟩ := h.skins k hk
        exact ⟨a1, a2, a3, by simp; omega, a5⟩ }
  | material name ws n h1 h2 h3 h4 h5 h6 =>
    have hl := numsF_len _ _ h1
    exact { h with
      nm := by simp; omega
      mn := by simp only [List.map_append, List.map_cons, List.map_nil]; exact nodup_snoc h.mn (place_notin _ _ h5)
      mats := all_snoc h.mats ⟨h2, by show n.length = 8; omega, h6⟩
      skins := fun k hk => by
        obtain ⟨a1, a2, a5⟩ := h.skins k hk
        exact ⟨a1, by simp; omega, a5⟩ }
  | cage name mat w3 w4 tex w6 n i h1 h2 h3 h4 h5 h6 h7 h8 h9 =>
    have hl := numsF_len _ _ h4
    simp only [List.length_cons, List.length_nil] at hl
    simp only [Bool.and_eq_true] at h9
    obtain ⟨⟨w1, w2⟩, w3'⟩ := h9
    have b1 := wi_at w1 0 (by omega) (by omega) (by omega)
    have b2 := wi_at w2 1 (by omega) (by omega) (by omega)
    have b3 := wi_at w3' 2 (by omega) (by omega) (by omega)
    have hp := place_lt mat _ i h7
    have ht := placeI_lt tex (sc.texs.map (·.1))
    simp only [List.length_map] at hp ht
    exact { h with
      ns := ⟨by have := h.ns; simp; omega, by have := h.ns; simp; omega⟩
      sn := by simp only [List.map_append, List.map_cons, List.map_nil]; exact nodup_snoc h.sn (place_notin _ _ h6)
      skins := all_snoc h.skins ⟨h1, hp, ht.1, ht.2, b1, b2, b3⟩
      cages := all_snoc h.cages goodC0 }
  | vert ws n c h1 h2 h3 h4 h5 =>
    have g := h.cages c (last_mem h3)
    refine good_last h h3 (fun c => { c with verts := c.verts ++ [n] }) ⟨by simp; omega, all_snoc g.verts ⟨h2, h5⟩, g.nf, fun m hm => ?_, g.nc, fun m hm => ?_⟩
    · obtain ⟨a1, a2, a3⟩ := g.faces m hm
      exact ⟨a1, a2, wi_mono a3 (by simp; omega)⟩
    · obtain ⟨a1, a2, a3⟩ := g.creases m hm
      exact ⟨a1, wi_mono a2 (by simp; omega), a3⟩
  | face ws n c h1 h2 h2' h3 h4 h5 =>
    have g := h.cages c (last_mem h3)
    exact good_last h h3 (fun c => { c with faces := c.faces ++ [n] }) ⟨g.nv, g.verts, by simp; omega, all_snoc g.faces ⟨h2, h2', h5⟩, g.nc, g.creases⟩
  | crease ws n c h1 h2 h3 h4 h5 =>
    have g := h.cages c (last_mem h3)
    simp only [Bool.and_eq_true, Bool.not_eq_true', decide_eq_false_iff_not] at h5
    exact good_last h h3 (fun c => { c with creases := c.creases ++ [n] }) ⟨g.nv, g.verts, g.nf, g.faces, by simp; omega, all_snoc g.creases ⟨h2, h5.1.1, h5.1.2, h5.2⟩⟩
theorem good_run : ∀ (l : List (Nat × List Wd)) (sc sc' : Scn), runS sc l = .ok sc' → Good sc → Good sc'
  | [], sc, sc', h, hi => by unfold runS at h; injection h with h; subst h; exact hi
  | q :: l, sc, sc', h, hi => by
    unfold runS at h
    cases e : lineF sc q.2 with
    | error n => rw [e] at h; cases h
    | ok s2 => rw [e] at h; exact good_run l s2 sc' h (good_adds (lineF_adds e) hi)
theorem good_scene {l : List (Nat × List Wd)} {sc : Scn} (h : sceneF l = .ok sc) : Good sc ∧ sc.cam ≠ none := by
  unfold sceneF at h
  cases e : runS scn0 l with
  | error n => rw [e] at h; cases h
  | ok s2 =>
    rw [e] at h
    simp only at h
    split at h
    · rename_i hc
      injection h with h; subst h
      exact ⟨good_run l scn0 s2 e good0, fun k => by rw [k] at hc; cases hc⟩
    · cases h
theorem good_tex_len {sc : Scn} (h : Good sc) : ∀ q ∈ sc.texs, q.2.length ≤ 258 := fun q hq => by
  obtain ⟨_, h1, h2, h3⟩ := h.texs q hq
  simp only [Bool.and_eq_true] at h3
  have b0 := wi_at h3.1 0 (by omega) (by omega) (by omega)
  have b1 := wi_at h3.1 1 (by omega) (by omega) (by omega)
  have : q.2.getD 0 0 * q.2.getD 1 0 ≤ 16 * 16 := Int.mul_le_mul b0.2 b1.2 (by omega) (by omega)
  omega
end Go.Proofs.YtdkgbdecmgligaaGreatDoor

/- What Parse answers, as the document's Same reads it. -/
namespace Go.Proofs.YtdkgbdecmgligaaGreatDoor
open Go.RowKit
set_option linter.unusedVariables false
set_option linter.unusedSimpArgs false
set_option linter.unnecessarySimpa false
theorem CF_of_own {W : World} {base : Nat} {T : TypeId} {sz n c : Nat} {A : Option Addr} {xs : List Value} (h : W.ownsRow base T sz (.slice A n c) n xs) (hx : xs.length = n * sz) : CF W A xs := fun h0 => by
  rcases h.2 with ⟨h1, h2⟩ | ⟨g, cap, cur, h1, _, hg, _⟩
  · subst h2; rw [Nat.zero_mul] at hx; omega
  · injection h1 with hA _ hc
    subst hA hc
    refine ⟨g, 0, rfl, (h.lt g rfl).2, fun i hi => ?_⟩
    rw [Nat.zero_add, h.cellAt i (by omega)]
theorem IF_of_ro {W : World} {base : Nat} {T : TypeId} {A : Option Addr} {n c : Nat} {ns : List Int} (h : roRow W base T (.slice A n c) n (i64s ns)) (hn : ns.length = n) : IF W A ns := fun h0 => by
  rcases h.2 with ⟨e, e2⟩ | ⟨b, off, cap, cur, e, _, hc, hx⟩
  · omega
  · injection e with e1 _ e3
    subst e1 e3
    refine ⟨b, off, rfl, (Array.getElem?_eq_some_iff.1 hc).1, fun i hi => ?_⟩
    rw [cell_of_row _ _ _ _ _ _ hc, hx i (by omega), i64s_get _ _ hi]
theorem flat_length {α : Type} (f : α → List Value) (sz : Nat) (hf : ∀ a, (f a).length = sz) : ∀ l : List α, (l.flatMap f).length = l.length * sz
  | [] => by simp
  | a :: l => by rw [List.flatMap_cons, List.length_append, hf, flat_length f sz hf l, List.length_cons, Nat.succ_mul]; omega
theorem good_face {c : CageM} (h : GoodC c) (i : Nat) : (c.faces.getD i []).length ≤ 8 := by
  by_cases hi : i < c.faces.length
  · have e : c.faces.getD i [] = c.faces[i] := by simp [List.getD, hi]
    rw [e]
    exact (h.faces _ (List.getElem_mem hi)).2.1
  · have e : c.faces.getD i [] = [] := by simp [List.getD, Nat.le_of_not_lt hi]
    rw [e]; simp
theorem cageSS_get (n : Nat) (val : Key → Value) (i : Nat) (h : i < (cageSS n val).length) : (cageSS n val)[i] = (val (.vert i), val (.face i), val (.crease i)) := by
  simp [cageSS]
theorem RepV.sceneR {g b : Nat} {W : World} {TR : TypeId} {sc : Scn} {val : Key → Value} (h : RepV g W b TR sc val) (hg : Good sc) : SceneR W (val .lights) (val .mats) (val .texs) (val .skins) (val .cages) sc := by
  refine ⟨?_, ?_, ?_, ?_, ?_⟩
  · have r := show W.ownsRow g 76 6 (val .lights) sc.lights.length (sc.lights.flatMap fL) from h.own.row .lights
    obtain ⟨A, k, e⟩ := own_form r
    rw [e] at r
    exact ⟨A, k, e, CF_of_own r (flat_length fL 6 (fun _ => rfl) _), by have := hg.nl; omega⟩
  · have r := show W.ownsRow g 53 9 (val .mats) sc.mats.length (sc.mats.flatMap fM) from h.own.row .mats
    obtain ⟨A, k, e⟩ := own_form r
    rw [e] at r
    exact ⟨A, k, e, CF_of_own r (flat_length fM 9 (fun _ => rfl) _), by have := hg.nm; omega⟩
  · have r := show W.ownsRow g 51 4 (val .texs) sc.texs.length ((texSS sc val).flatMap fT) from h.own.row .texs
    obtain ⟨A, k, e⟩ := own_form r
    rw [e] at r
    have hl : (texSS sc val).length = sc.texs.length := by unfold texSS; simp
    refine ⟨A, k, texSS sc val, e, CF_of_own r (by rw [flat_length fT 4 (fun _ => rfl), hl]), ?_, by have := hg.nt; omega, fun q hq => ?_⟩
    · apply List.ext_getElem (by simp [hl])
      intro i h1 h2
      unfold texSS
      simp [texAt, List.getD, h2]
    · unfold texSS at hq
      obtain ⟨i, hi, rfl⟩ := List.mem_map.1 hq
      rw [List.mem_range] at hi
      have rt := show roRow W g 3 (val (.tex i)) ((texAt sc i).2.drop 2).length (i64s ((texAt sc i).2.drop 2)) from h.own.row (.tex i)
      have hm : texAt sc i ∈ sc.texs := by
        have : texAt sc i = sc.texs[i] := by unfold texAt; simp [List.getD, hi]
        rw [this]; exact List.getElem_mem hi
      have hl2 := good_tex_len hg _ hm
      obtain ⟨B, m, e3⟩ : ∃ B m, val (.tex i) = .slice B ((texAt sc i).2.drop 2).length m := by
        rcases rt.2 with ⟨e, e2⟩ | ⟨b, off, cap, cur, e, _⟩
        · exact ⟨none, 0, by rw [e, e2]⟩
        · exact ⟨_, _, e⟩
      rw [e3] at rt
      exact ⟨B, m, e3, IF_of_ro rt rfl, by show ((texAt sc i).2.drop 2).length ≤ 65536; simp; omega⟩
  · have r := show W.ownsRow g 55 6 (val .skins) sc.skins.length (sc.skins.flatMap fS) from h.own.row .skins
    obtain ⟨A, k, e⟩ := own_form r
    rw [e] at r
    exact ⟨A, k, e, CF_of_own r (flat_length fS 6 (fun _ => rfl) _), by have := hg.ns; omega⟩
  · have r := show W.ownsRow g 48 3 (val .cages) sc.cages.length ((cageSS sc.cages.length val).flatMap fC) from h.own.row .cages
    obtain ⟨A, k, e⟩ := own_form r
    rw [e] at r
    have hl : (cageSS sc.cages.length val).length = sc.cages.length := by unfold cageSS; simp
    refine ⟨A, k, cageSS sc.cages.length val, e, CF_of_own r (by rw [flat_length fC 3 (fun _ => rfl), hl]), hl, by have := hg.ns; omega, fun i hi hi2 => ?_⟩
    have e2 : (cageSS sc.cages.length val)[i] = (val (.vert i), val (.face i), val (.crease i)) := cageSS_get _ _ _ hi
    rw [e2]
    have ec : cageAt sc i = sc.cages[i] := by unfold cageAt; simp [List.getD, hi2]
    have gc := hg.cages _ (List.getElem_mem hi2)
    rw [← ec] at gc ⊢
    refine ⟨?_, ?_, ?_⟩
    · have r := show W.ownsRow g 23 3 (val (.vert i)) (cageAt sc i).verts.length (flat3 (cageAt sc i).verts) from h.own.row (.vert i)
      obtain ⟨A, k, e⟩ := own_form r
      rw [e] at r
      exact ⟨A, k, e, CF_of_own r r.1, by have := gc.nv; omega⟩
    · have r := show W.ownsRow g 49 1 (val (.face i)) (cageAt sc i).faces.length ((List.range (cageAt sc i).faces.length).map fun j => val (.frow i j)) from h.own.row (.face i)
      obtain ⟨A, k, e⟩ := own_form r
      rw [e] at r
      refine ⟨A, k, _, e, CF_of_own r (by simp), by simp, by have := gc.nf; omega, fun j hj => ?_⟩
      have rt := show roRow W g 3 (val (.frow i j)) ((cageAt sc i).faces.getD j []).length (i64s ((cageAt sc i).faces.getD j [])) from h.own.row (.frow i j)
      obtain ⟨B, m, e3⟩ : ∃ B m, val (.frow i j) = .slice B ((cageAt sc i).faces.getD j []).length m := by
        rcases rt.2 with ⟨e, e2⟩ | ⟨b, off, cap, cur, e, _⟩
        · exact ⟨none, 0, by rw [e, e2]⟩
        · exact ⟨_, _, e⟩
      have rt2 := rt
      rw [e3] at rt2
      have := good_face gc j
      exact ⟨B, m, by simp [hj, e3], IF_of_ro rt2 rfl, by omega⟩
    · have r := show W.ownsRow g 98 3 (val (.crease i)) (cageAt sc i).creases.length (flat3 (cageAt sc i).creases) from h.own.row (.crease i)
      obtain ⟨A, k, e⟩ := own_form r
      rw [e] at r
      exact ⟨A, k, e, CF_of_own r r.1, by have := gc.nc; omega⟩
theorem sceneT_good {l : List UInt8} {sc : Scn} (h : sceneT l = .ok sc) : Good sc ∧ sc.cam ≠ none := by
  unfold sceneT at h
  cases q : linesP 1 [] (spl l) with
  | error n => rw [q] at h; cases h
  | ok o => rw [q] at h; exact good_scene h
/-- Two scenes of one content, as Parse answers them, are the same. -/
theorem same_reps (w : World) {sc : Scn} {g1 b1 g2 b2 : Nat} {T1 T2 : TypeId} {v1 v2 : Key → Value} (hg : Good sc) (h1 : RepV g1 w b1 T1 sc v1) (h2 : RepV g2 w b2 T2 sc v2) :
    Calls Tryz.prog 12 #[.agg (sceneV sc v1), .agg (sceneV sc v2)] w fun e w' => e = .returned (.bool true) ∧ ∃ x, w' = grow w x :=
  same_yes6 w (camN sc) (skyN sc) _ _ _ _ _ _ _ _ _ _ sc hg.ns.1 (h1.sceneR hg) (h2.sceneR hg)
end Go.Proofs.YtdkgbdecmgligaaGreatDoor

/- Lines of words, joined to a text and read again (math). -/
namespace Go.Proofs.YtdkgbdecmgligaaGreatDoor
open Go.Lib
set_option linter.unusedVariables false
set_option linter.unusedSimpArgs false
set_option linter.unnecessarySimpa false
/-- A word as lines have them. -/
def okW (w : Wd) : Prop := w ≠ [] ∧ ∀ c ∈ w, 33 ≤ c.toNat ∧ c.toNat ≤ 126 ∧ c ≠ 35
/-- Words, each with a blank ahead. -/
def jn (ws : List Wd) : List UInt8 := ws.flatMap fun w => 32 :: w
theorem jn_cons (w : Wd) (ws : List Wd) : jn (w :: ws) = 32 :: (w ++ jn ws) := by unfold jn; simp
theorem jn_app (a b : List Wd) : jn (a ++ b) = jn a ++ jn b := by unfold jn; simp
def wl (ws : List Wd) : Nat := (ws.map fun w => w.length + 1).sum
theorem wl_cons (w : Wd) (ws : List Wd) : wl (w :: ws) = w.length + 1 + wl ws := by unfold wl; simp
theorem jn_len (ws : List Wd) : (jn ws).length = wl ws := by
  induction ws with
  | nil => rfl
  | cons w ws ih => rw [jn_cons, wl_cons]; simp [ih]; omega
theorem okW_sp {w : Wd} (h : okW w) : ∀ c ∈ w, isSp c = false := fun c hc => by
  have := h.2 c hc
  rw [isSp_plain ⟨by omega, by omega⟩]
  simp; omega
theorem fieldsGo_sum : ∀ (l w : List UInt8), wl (fieldsGo w l) ≤ l.length + w.length + 1
  | [], w => by
    unfold fieldsGo
    cases w with
    | nil => simp [wl]
    | cons a t => simp [wl]
  | b :: l, w => by
    unfold fieldsGo
    split
    · have ih := fieldsGo_sum l []
      cases w with
      | nil => simp at ih ⊢; omega
      | cons a t => simp [wl_cons] at ih ⊢; omega
    · have ih := fieldsGo_sum l (w ++ [b])
      simp at ih ⊢; omega
theorem fieldsGo_ok : ∀ (l w : List UInt8), plainL l → (∀ c ∈ l, c ≠ 35) → (w = [] ∨ okW w) → ∀ x ∈ fieldsGo w l, okW x
  | [], w, _, _, hw, x, hx => by
    unfold fieldsGo at hx
    cases w with
    | nil => simp at hx
    | cons a t =>
      simp at hx
      subst hx
      exact hw.resolve_left (by simp)
  | b :: l, w, hp, hr, hw, x, hx => by
    have hb := hp b (by simp)
    have hpl : plainL l := fun c hc => hp c (by simp [hc])
    have hrl : ∀ c ∈ l, c ≠ 35 := fun c hc => hr c (by simp [hc])
    unfold fieldsGo at hx
    split at hx
    · rename_i hs
      cases w with
      | nil => simp at hx; exact fieldsGo_ok l [] hpl hrl (.inl rfl) x hx
      | cons a t =>
        simp at hx
        rcases hx with rfl | hx
        · exact hw.resolve_left (by simp)
        · exact fieldsGo_ok l [] hpl hrl (.inl rfl) x hx
    · rename_i hs
      refine fieldsGo_ok l (w ++ [b]) hpl hrl (.inr ⟨by simp, fun c hc => ?_⟩) x hx
      rcases List.mem_append.1 hc with hc | hc
      · rcases hw with rfl | hw
        · cases hc
        · exact hw.2 c hc
      · rw [List.mem_singleton] at hc
        subst hc
        refine ⟨?_, hb.2, hr c (by simp)⟩
        have e := isSp_plain hb
        rw [e] at hs
        simp at hs
        omega
theorem fieldsGo_word : ∀ (w cur l : List UInt8), (∀ c ∈ w, isSp c = false) → fieldsGo cur (w ++ l) = fieldsGo (cur ++ w) l
  | [], cur, l, _ => by simp
  | b :: w, cur, l, h => by
    rw [List.cons_append, fieldsGo_more cur b _ (h b (by simp)), fieldsGo_word w (cur ++ [b]) l (fun c hc => h c (by simp [hc]))]
    simp
theorem sp32 : isSp 32 = true := by decide
theorem fieldsGo_jn : ∀ (ws : List Wd) (cur : Wd), (∀ w ∈ ws, okW w) → okW cur → fieldsGo cur (jn ws) = cur :: ws
  | [], cur, _, hc => by
    show fieldsGo cur [] = _
    unfold fieldsGo
    cases cur with
    | nil => exact absurd rfl hc.1
    | cons a t => simp
  | w :: ws, cur, h, hc => by
    have hw := h w (by simp)
    rw [jn_cons, fieldsGo_end cur 32 _ sp32 hc.1, fieldsGo_word w [] _ (okW_sp hw), List.nil_append, fieldsGo_jn ws w (fun x hx => h x (by simp [hx])) hw]
theorem told_all (l : List UInt8) (h : ∀ c ∈ l, c ≠ 35) : told l = l := by
  unfold told
  induction l with
  | nil => rfl
  | cons a l ih => rw [List.takeWhile_cons_of_pos (by simpa using h a (by simp)), ih (fun c hc => h c (by simp [hc]))]
theorem jn_mem {ws : List Wd} (h : ∀ w ∈ ws, okW w) {c : UInt8} (hc : c ∈ jn ws) : c = 32 ∨ (33 ≤ c.toNat ∧ c.toNat ≤ 126 ∧ c ≠ 35) := by
  unfold jn at hc
  rw [List.mem_flatMap] at hc
  obtain ⟨w, hw, hc⟩ := hc
  rcases List.mem_cons.1 hc with rfl | hc
  · exact .inl rfl
  · exact .inr ((h w hw).2 c hc)
/-- What a line is, for its words to be those. -/
def LineOf (p : List UInt8) (ws : List Wd) : Prop := plainL p ∧ wordsOf p = ws ∧ ∀ c ∈ p, c ≠ 10
theorem ne10 {c : UInt8} (h : 32 ≤ c.toNat) : c ≠ 10 := fun e => by subst e; revert h; decide
theorem lineOf_jn {ws : List Wd} (h : ∀ w ∈ ws, okW w) : LineOf (jn ws) ws := by
  have hp : plainL (jn ws) := fun c hc => by
    rcases jn_mem h hc with rfl | h2
    · decide
    · omega
  have h35 : ∀ c ∈ jn ws, c ≠ 35 := fun c hc => by
    rcases jn_mem h hc with rfl | h2
    · decide
    · exact h2.2.2
  refine ⟨hp, ?_, fun c hc => ne10 (hp c hc).1⟩
  unfold wordsOf fields
  rw [told_all _ h35]
  cases ws with
  | nil => rfl
  | cons w t =>
    have hw := h w (by simp)
    rw [jn_cons, fieldsGo_sp 32 _ sp32, fieldsGo_word w [] _ (okW_sp hw), List.nil_append, fieldsGo_jn t w (fun x hx => h x (by simp [hx])) hw]
theorem lineOf_kind {k : Wd} {ws : List Wd} (hk : okW k) (h : ∀ w ∈ ws, okW w) : LineOf (k ++ jn ws) (k :: ws) := by
  have hm : ∀ c ∈ k ++ jn ws, c = 32 ∨ (33 ≤ c.toNat ∧ c.toNat ≤ 126 ∧ c ≠ 35) := fun c hc => by
    rcases List.mem_append.1 hc with hc | hc
    · exact .inr (hk.2 c hc)
    · exact jn_mem h hc
  have hp : plainL (k ++ jn ws) := fun c hc => by
    rcases hm c hc with rfl | h2
    · decide
    · omega
  refine ⟨hp, ?_, fun c hc => ne10 (hp c hc).1⟩
  unfold wordsOf fields
  rw [told_all _ (fun c hc => by
    rcases hm c hc with rfl | h2
    · decide
    · exact h2.2.2), fieldsGo_word k [] _ (okW_sp hk), List.nil_append, fieldsGo_jn ws k h hk]
theorem spl_line : ∀ (p l : List UInt8), (∀ c ∈ p, c ≠ 10) → spl (p ++ 10 :: l) = p :: spl l
  | [], l, _ => by
    show spl (10 :: l) = _
    rw [spl, if_pos rfl]
  | b :: p, l, h => by
    show spl (b :: (p ++ 10 :: l)) = _
    rw [spl, if_neg (h b (by simp)), spl_line p l (fun c hc => h c (by simp [hc]))]
/-- Lines, each with its end. -/
def txtOf (L : List (List UInt8)) : List UInt8 := L.flatMap (· ++ [10])
theorem txtOf_app (a b : List (List UInt8)) : txtOf (a ++ b) = txtOf a ++ txtOf b := by unfold txtOf; simp
theorem spl_text : ∀ (L : List (List UInt8)), (∀ p ∈ L, ∀ c ∈ p, c ≠ 10) → spl (txtOf L) = L ++ [[]]
  | [], _ => rfl
  | p :: L, h => by
    have e : txtOf (p :: L) = p ++ 10 :: txtOf L := by unfold txtOf; simp
    rw [e, spl_line p _ (h p (by simp)), spl_text L (fun q hq => h q (by simp [hq]))]
    rfl
theorem linesP_text : ∀ (L : List (List UInt8)) (n : Nat) (O : List (Nat × List (List Nat))), (∀ p ∈ L, plainL p ∧ wordsOf p ≠ []) → ∃ o, linesP n O (L ++ [[]]) = .ok (O ++ o) ∧ o.map (·.2) = L.map fun p => (wordsOf p).map nb
  | [], n, O, _ => ⟨[], by
    show linesP n O [[]] = _
    unfold linesP
    rw [if_pos (show plainL [] from fun c hc => by cases hc)]
    unfold linesP lineO
    rw [if_pos (by rfl)]
    simp, rfl⟩
  | p :: L, n, O, h => by
    obtain ⟨hp, hw⟩ := h p (by simp)
    obtain ⟨o, h1, h2⟩ := linesP_text L (n + 1) (lineO n O p) (fun q hq => h q (by simp [hq]))
    refine ⟨(n, (wordsOf p).map nb) :: o, ?_, by simp [h2]⟩
    show linesP n O (p :: (L ++ [[]])) = _
    unfold linesP
    rw [if_pos hp, h1]
    unfold lineO
    rw [if_neg hw]
    simp
/-- The scene of lines that were joined. -/
theorem sceneT_text (L : List (List UInt8)) (W : List (List Wd)) (hl : L.length = W.length) (h : ∀ i (h1 : i < L.length) (h2 : i < W.length), LineOf L[i] W[i]) (hne : ∀ ws ∈ W, ws ≠ []) :
    ∃ m, sceneT (txtOf L) = sceneF m ∧ noNo m = W := by
  have hp : ∀ p ∈ L, plainL p ∧ wordsOf p ≠ [] ∧ ∀ c ∈ p, c ≠ 10 := fun p hp => by
    obtain ⟨i, hi, rfl⟩ := List.getElem_of_mem hp
    obtain ⟨h1, h2, h3⟩ := h i hi (by omega)
    exact ⟨h1, by rw [h2]; exact hne _ (List.getElem_mem _), h3⟩
  obtain ⟨o, h1, h2⟩ := linesP_text L 1 [] (fun p hq => ⟨(hp p hq).1, (hp p hq).2.1⟩)
  refine ⟨toW o, ?_, ?_⟩
  · unfold sceneT
    rw [spl_text L (fun p hq => (hp p hq).2.2), h1]
    simp
  · unfold noNo toW
    rw [List.map_map]
    have e : (fun q : Nat × List Wd => q.2) ∘ (fun q : Nat × List (List Nat) => (q.1, q.2.map fun w => w.map UInt8.ofNat)) = (fun x : List (List Nat) => x.map fun w => w.map UInt8.ofNat) ∘ (fun q : Nat × List (List Nat) => q.2) := rfl
    rw [e, ← List.map_map, h2, List.map_map]
    apply List.ext_getElem (by simp [hl])
    intro i h3 h4
    simp only [List.getElem_map, Function.comp_apply, List.map_map]
    rw [(h i (by simpa using h3) h4).2.1]
    simp [Function.comp_def, nb_back]
/-! what lines have for words -/
theorem wordsOf_ok {p : List UInt8} (hp : plainL p) : ∀ w ∈ wordsOf p, okW w := by
  obtain ⟨r, e, _⟩ := told_plus p
  exact fieldsGo_ok _ [] (fun c hc => hp c (by rw [e]; simp [hc])) (told_no p) (.inl rfl)
theorem wordsOf_sum (p : List UInt8) : wl (wordsOf p) ≤ p.length + 1 := by
  obtain ⟨r, e, _⟩ := told_plus p
  have h := fieldsGo_sum (told p) []
  have hl : (told p).length ≤ p.length := by
    have := congrArg List.length e
    simp only [List.length_append] at this
    omega
  unfold wordsOf fields
  simp at h
  omega
/-- How long lines are when they are joined. -/
def tot (l : List (List Wd)) : Nat := (l.map fun ws => wl ws + 1).sum
theorem tot_cons (ws : List Wd) (l : List (List Wd)) : tot (ws :: l) = wl ws + 1 + tot l := by unfold tot; simp
theorem tot_app (a b : List (List Wd)) : tot (a ++ b) = tot a + tot b := by unfold tot; simp
theorem linesP_words : ∀ (P : List (List UInt8)) (n : Nat) (O o : List (Nat × List (List Nat))), linesP n O P = .ok o → ∃ o2, o = O ++ o2 ∧ (∀ q ∈ toW o2, q.2 ≠ [] ∧ ∀ w ∈ q.2, okW w) ∧ tot (noNo (toW o2)) ≤ (P.map fun p => p.length + 2).sum
  | [], n, O, o, h => by
    unfold linesP at h
    injection h with h
    subst h
    exact ⟨[], by simp, (fun q hq => by cases hq), by simp [tot, noNo, toW]⟩
  | p :: P, n, O, o, h => by
    unfold linesP at h
    split at h
    · rename_i hp
      obtain ⟨o2, e, h1, h2⟩ := linesP_words P _ _ _ h
      unfold lineO at e
      split at e
      · exact ⟨o2, e, h1, by simp; omega⟩
      · rename_i hne
        refine ⟨(n, (wordsOf p).map nb) :: o2, by rw [e]; simp, ?_, ?_⟩
        · have eb : toW ((n, (wordsOf p).map nb) :: o2) = (n, wordsOf p) :: toW o2 := by
            unfold toW
            simp [Function.comp_def, nb_back]
          rw [eb]
          intro q hq
          rcases List.mem_cons.1 hq with rfl | hq
          · exact ⟨hne, wordsOf_ok hp⟩
          · exact h1 q hq
        · have eb : noNo (toW ((n, (wordsOf p).map nb) :: o2)) = wordsOf p :: noNo (toW o2) := by
            unfold noNo toW
            simp [Function.comp_def, nb_back]
          rw [eb, tot_cons]
          have := wordsOf_sum p
          simp
          omega
    · cases h
theorem spl_sum (l : List UInt8) : ((spl l).map fun p => p.length + 1).sum = l.length + 1 := by
  have h := congrArg List.length (spl_join l)
  simp only [List.length_flatten, List.map_map, List.length_append, List.length_singleton] at h
  have e : (List.length ∘ fun x : List UInt8 => x ++ [10]) = fun p => p.length + 1 := by funext p; simp
  rw [e] at h
  exact h
theorem sum_two (P : List (List UInt8)) : (P.map fun p => p.length + 2).sum = (P.map fun p => p.length + 1).sum + P.length := by
  induction P with
  | nil => rfl
  | cons p P ih => simp only [List.map_cons, List.sum_cons, List.length_cons, ih]; omega
theorem spl_count (l : List UInt8) : (spl l).length ≤ l.length + 1 := by
  have h := spl_sum l
  have : ∀ P : List (List UInt8), P.length ≤ (P.map fun p => p.length + 1).sum := fun P => by
    induction P with
    | nil => simp
    | cons p P ih => simp only [List.map_cons, List.sum_cons, List.length_cons]; omega
  have := this (spl l)
  omega
/-- The lines of a text: their words, and how long they are. -/
theorem lines_words {l : List UInt8} {o : List (Nat × List (List Nat))} (h : linesP 1 [] (spl l) = .ok o) : (∀ q ∈ toW o, q.2 ≠ [] ∧ ∀ w ∈ q.2, okW w) ∧ tot (noNo (toW o)) ≤ 2 * (l.length + 1) := by
  obtain ⟨o2, e, h1, h2⟩ := linesP_words _ _ _ _ h
  rw [List.nil_append] at e
  subst e
  have := spl_sum l
  have := spl_count l
  rw [sum_two] at h2
  exact ⟨h1, by omega⟩
theorem wl_mem : ∀ (ws : List Wd) (w : Wd), w ∈ ws → w.length + 1 ≤ wl ws
  | [], w, h => by cases h
  | a :: t, w, h => by
    rw [wl_cons]
    rcases List.mem_cons.1 h with rfl | h
    · omega
    · have := wl_mem t w h; omega
theorem tot_mem : ∀ (l : List (List Wd)) (ws : List Wd), ws ∈ l → wl ws + 1 ≤ tot l
  | [], ws, h => by cases h
  | a :: l, ws, h => by
    rw [tot_cons]
    rcases List.mem_cons.1 h with rfl | h
    · omega
    · have := tot_mem l ws h; omega
theorem word_le {l : List (List Wd)} {ws : List Wd} {w : Wd} (h : ws ∈ l) (hw : w ∈ ws) : w.length + 2 ≤ tot l := by
  have := tot_mem l ws h
  have := wl_mem ws w hw
  omega
end Go.Proofs.YtdkgbdecmgligaaGreatDoor

/- An argument that is a text. -/
namespace Go.Proofs.YtdkgbdecmgligaaGreatDoor
open Go.RowKit Go.ChangeShapes Go.WideShapes Go.ChangeAt Go.ChangeMaps
set_option linter.unusedVariables false
set_option linter.unusedSimpArgs false
section
variable {H : Type} {enc : TypeId × Value → H} {w : World} {base b0 : Nat} {spare : Nat → Bool} {held : Bool} {v : Value} {d : DataW H} {p : List MemPlace} {r : Reach}
set_option maxRecDepth 100000 in
theorem open_Str (hv : Value.okWide Tryz.prog w r b0 9 v) (h : DataW.Trod enc Tryz.prog w base spare held 9 v d p) : ∃ s : ByteArray, v = .string s ∧ s.size ≤ maxLen := by
  obtain ⟨s, e, _, _, hs⟩ := open_string Tryz.underlying9 hv h
  exact ⟨s, e, hs⟩
end
end Go.Proofs.YtdkgbdecmgligaaGreatDoor

/- The last step of a law's row: it answered true, and all that was there is as it was. No program is imported. -/
namespace Go.Proofs.YtdkgbdecmgligaaGreatDoor
open Go.ChangeShapes Go.WideShapes Go.ChangeAt Go.RowKit
set_option linter.unusedVariables false
set_option linter.unusedSimpArgs false
variable {H : Type} {enc : TypeId × Value → H} {P : Program}
theorem args_below (hl : laidOutB P = true) {W W' : World} (hb : Below W.heap.size W W') : ∀ (ts : List TypeId) (vs : List Value) (ds : List (DataW H)) (ps : List MemPlace),
    (ts.all fun t => P.readableRec t && decide (t < P.types.size)) = true → (∀ x ∈ ps, x.block < W.heap.size) →
    DataW.TrodAll enc P W 0 (fun _ => true) true ts vs ds ps → DataW.TrodAll enc P W' 0 (fun b => decide (b < W.heap.size)) true ts vs ds ps := by
  intro ts
  induction ts with
  | nil =>
    intro vs ds ps _ _ h
    obtain ⟨rfl, rfl, rfl⟩ := trodAll_nil h
    exact trodAll_mk0
  | cons t ts ih =>
    intro vs ds ps ht hx h
    simp only [List.all_cons, Bool.and_eq_true, decide_eq_true_eq] at ht
    obtain ⟨v, vs', d, ds', p, q, rfl, rfl, rfl, h0, h1⟩ := trodAll_cons h
    exact trodAll_cons_mk (Below.trod hl ht.1.1 ht.1.2 h0 hb fun x hp => hx x (by simp [hp])) (ih vs' ds' q ht.2 (fun x hp => hx x (by simp [hp])) h1)
theorem law_post {f : Func} {s : ChangeSpec} {W W' : World} {args : Array Value} {ds gs : List (DataW H)} {before : List MemPlace} {tb : TypeId}
    (hl : laidOutB P = true) (hts : (f.params.toList.all fun t => P.readableRec t && decide (t < P.types.size)) = true) (hv : s.vars = [])
    (hres : f.resultTypes = #[tb]) (htb : P.underlying tb = some .bool) (hr : (s.fn H ds).results = [.lit (.bool true)]) (ha : (s.fn H ds).args = ds) (hg : (s.fn H ds).vars = [])
    (hW : DataW.Whole enc P f.params.toList s.vars false W args.toList ds gs before) (hb : Below W.heap.size W W') :
    s.post enc P f false true false false W args (.bool true) W' := by
  have hlt := fun p hp => hW.lt (p := p) hp
  have hW0 := hW
  obtain ⟨p, q, h1, h2, rfl, hz, hn⟩ := hW
  rw [hv] at h2
  obtain ⟨rfl, rfl⟩ := trodVars_none h2
  simp only [List.append_nil] at *
  refine ⟨ds, [], p, [], p, [], hW0, ?_, ?_, ?_, World.keptBut_mono (fun _ h => h.elim) (hb.frame fun _ => False), fun h => by cases h⟩
  · simp only [List.append_nil, hr, hres]
    exact trodAll_cons_mk (shut_bool htb true) trodAll_mk0
  · simp only [List.append_nil, ha]
    exact args_below hl hb _ _ _ _ hts (fun x hx => hlt x hx) h1
  · simp only [List.append_nil, hg, hv]
    rfl
end Go.Proofs.YtdkgbdecmgligaaGreatDoor
