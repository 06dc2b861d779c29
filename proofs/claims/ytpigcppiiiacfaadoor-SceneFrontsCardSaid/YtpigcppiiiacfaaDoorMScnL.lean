/- The scenes that the document fixes for layer 6: alive answers true. -/
import Derived.Test.YtpigcppiiiacfaaDoorScnQI
import Derived.Test.YtpigcppiiiacfaaDoorLexA
import Derived.Test.YtpigcppiiiacfaaDoorScnB
import Derived.Test.YtpigcppiiiacfaaDoorScnF
import Derived.Test.YtpigcppiiiacfaaDoorLexT
namespace Go.Proofs.YtpigcppiiiacfaaDoor
open Go.RowKit
set_option linter.unusedVariables false
set_option linter.unusedSimpArgs false
set_option linter.unnecessarySimpa false

def sc1 : Scn := ⟨some [0, 0, -9, 0, 0, 8, 1, 0, 0, 0, 1, 0, 2, 2, 1, 0], none, [], [([109], [1, 2, 3, 0, 1, 0, 0, 256])], [], [⟨[99], 0, 1, 5, -1, 0⟩], [⟨[[1, 2, 3]], [], []⟩]⟩
def al1 : List UInt8 := "camera 0 0 -9 0 0 8 1 0 0 0 1 0 2 2 1 0\nmaterial m 1 2 3 0 1 0 0 256\ncage c m 1 5 - 0\nv 1 2 3\n".toUTF8.data.toList
def al2 : List UInt8 := "\nlight 1".toUTF8.data.toList
def al3 : List UInt8 := "sky 1 2 3".toUTF8.data.toList
theorem al1_sc : sceneT al1 = .ok sc1 := by kernel_rfl
theorem al2_sc : sceneT al2 = .error (2, 10) := by kernel_rfl
theorem al3_sc : sceneT al3 = .error (0, 15) := by kernel_rfl
theorem parse_al1 (w : World) (s : ByteArray) (e0 : s.data.toList = al1) (ht : Tabs w) : Calls Tryd.prog 9 #[.string s] w fun e w' => ∃ (L M T : Value) (bS cS bC cC bv cv : Nat), e = .returned (.tuple #[.agg #[.int .i64 0, .int .i64 0, .int .i64 (-9), .int .i64 0, .int .i64 0, .int .i64 8, .int .i64 1, .int .i64 0, .int .i64 0, .int .i64 0, .int .i64 1, .int .i64 0, .int .i64 2, .int .i64 2, .int .i64 1, .int .i64 0, .int .i64 0, .int .i64 0, .int .i64 0, L, M, T, .slice (some ⟨bS, 0, none⟩) 1 cS, .slice (some ⟨bC, 0, none⟩) 1 cC], .int .i64 0, .int .i64 0]) ∧ Below w.heap.size w w' ∧ bS < w'.heap.size ∧ bC < w'.heap.size ∧ w'.cell? ⟨bS, 4, none⟩ = some (.int .i64 (-1)) ∧ w'.cell? ⟨bC, 0, none⟩ = some (.slice (some ⟨bv, 0, none⟩) 1 cv) ∧ ((#[.int .i64 0, .int .i64 0, .int .i64 (-9), .int .i64 0, .int .i64 0, .int .i64 8, .int .i64 1, .int .i64 0, .int .i64 0, .int .i64 0, .int .i64 1, .int .i64 0, .int .i64 2, .int .i64 2, .int .i64 1, .int .i64 0, .int .i64 0, .int .i64 0, .int .i64 0, L, M, T, .slice (some ⟨bS, 0, none⟩) 1 cS, .slice (some ⟨bC, 0, none⟩) 1 cC] : Array Value)).all (·.oneCell') = true := by
  have hz : s.size ≤ 65536 := by
    have : s.size = al1.length := by rw [← e0]; rfl
    rw [this]
    exact of_decide_eq_true (by kernel_rfl)
  refine (parse_any w s hz ht).mono ?_
  rintro e w' ⟨hb, hp⟩
  rw [e0, al1_sc] at hp
  obtain ⟨g, val, rfl, hg, hR⟩ := hp
  have rS := show w'.ownsRow g 43 6 (val .skins) 1 _ from hR.own.row .skins
  have rC := show w'.ownsRow g 48 3 (val .cages) 1 _ from hR.own.row .cages
  have rv := show w'.ownsRow g 24 3 (val (.vert 0)) 1 _ from hR.own.row (.vert 0)
  obtain ⟨A1, c1, e1⟩ := own_form (show w'.ownsRow g 64 6 (val .lights) _ _ from hR.own.row .lights)
  obtain ⟨A2, c2, e2⟩ := own_form (show w'.ownsRow g 66 9 (val .mats) _ _ from hR.own.row .mats)
  obtain ⟨A3, c3, e3⟩ := own_form (show w'.ownsRow g 68 4 (val .texs) _ _ from hR.own.row .texs)
  obtain ⟨bS, cS, eS, _, hS⟩ := World.ownsRow.form rS (by simp)
  obtain ⟨bC, cC, eC, _, hC⟩ := World.ownsRow.form rC (by simp)
  obtain ⟨bv, cv, ev, _, _⟩ := World.ownsRow.form rv (by simp)
  rw [eS] at rS
  rw [eC] at rC
  refine ⟨val .lights, val .mats, val .texs, bS, cS, bC, cC, bv, cv, ?_, hb, hS, hC, ?_, ?_, ?_⟩
  · rw [← eS, ← eC]
    rfl
  · rw [rS.cellAt 4 (by simp [sc1])]
    rfl
  · rw [rC.cellAt 0 (by simp [sc1, cageSS, fC]), ← ev]
    rfl
  · rw [e1, e2, e3]
    simp [Value.oneCell']
theorem parse_al2 (w : World) (s : ByteArray) (e0 : s.data.toList = al2) (ht : Tabs w) : Calls Tryd.prog 9 #[.string s] w fun e w' => e = .returned (.tuple #[.agg scZ, .int .i64 2, .int .i64 10]) ∧ Below w.heap.size w w' := by
  have hz : s.size ≤ 65536 := by
    have : s.size = al2.length := by rw [← e0]; rfl
    rw [this]
    exact of_decide_eq_true (by kernel_rfl)
  refine (parse_any w s hz ht).mono ?_
  rintro e w' ⟨hb, hp⟩
  rw [e0, al2_sc] at hp
  exact ⟨hp, hb⟩
theorem parse_al3 (w : World) (s : ByteArray) (e0 : s.data.toList = al3) (ht : Tabs w) : Calls Tryd.prog 9 #[.string s] w fun e w' => e = .returned (.tuple #[.agg scZ, .int .i64 0, .int .i64 15]) ∧ Below w.heap.size w w' := by
  have hz : s.size ≤ 65536 := by
    have : s.size = al3.length := by rw [← e0]; rfl
    rw [this]
    exact of_decide_eq_true (by kernel_rfl)
  refine (parse_any w s hz ht).mono ?_
  rintro e w' ⟨hb, hp⟩
  rw [e0, al3_sc] at hp
  exact ⟨hp, hb⟩
end Go.Proofs.YtpigcppiiiacfaaDoor

/- Layer 6: alive answers true. -/
namespace Go.Proofs.YtpigcppiiiacfaaDoor
open Go.RowKit
set_option linter.unusedVariables false
set_option linter.unusedSimpArgs false
set_option linter.unnecessarySimpa false

/-- A scene's variable is made and stored into. -/
theorem scene_var (w W1 : World) (cs : Array Value) (hb : Below w.heap.size w W1) : Below w.heap.size w (W1.alloc (.cells cs 35)) := bel_alloc hb _
set_option maxRecDepth 100000 in
theorem alive6_any (w : World) (ht : Tabs w) : Calls Tryd.prog 8 #[] w fun e w' => e = .returned (.bool true) ∧ Below w.heap.size w w' := by
  go_enter Tryd.func8, Tryd.ntmps8
  go_upto_region 2 with (first | (go_at_call 9; (with_reducible refine Calls.mono (parse_al1 _ _ ?_ ht) ?_); exact (by kernel_rfl); rintro e W1 ⟨L, M, T, bS, cS, bC, cC, bv, cv, rfl, hb1, hS, hC, k4, k0, ho⟩) | (refine wpList_val rfl _ _ (alloc_Scene _ _ rfl _) ?_) | (refine wpList_store_rowTo rfl 35 _ _ rfl rfl W1.heap.size (#[.int .i64 0, .int .i64 0, .int .i64 (-9), .int .i64 0, .int .i64 0, .int .i64 8, .int .i64 1, .int .i64 0, .int .i64 0, .int .i64 0, .int .i64 1, .int .i64 0, .int .i64 2, .int .i64 2, .int .i64 1, .int .i64 0, .int .i64 0, .int .i64 0, .int .i64 0, L, M, T, .slice (some ⟨bS, 0, none⟩) 1 cS, .slice (some ⟨bC, 0, none⟩) 1 cC]) rfl rfl 35 scZ (Blk.new _ _ _ _ rfl) infoSc rfl ho ?_))
  obtain ⟨p, hp⟩ : ∃ p, p = W1.heap.size := ⟨_, rfl⟩
  have hW2 : Below W1.heap.size W1 (W1.alloc (.cells (#[.int .i64 0, .int .i64 0, .int .i64 (-9), .int .i64 0, .int .i64 0, .int .i64 8, .int .i64 1, .int .i64 0, .int .i64 0, .int .i64 0, .int .i64 1, .int .i64 0, .int .i64 2, .int .i64 2, .int .i64 1, .int .i64 0, .int .i64 0, .int .i64 0, .int .i64 0, L, M, T, .slice (some ⟨bS, 0, none⟩) 1 cS, .slice (some ⟨bC, 0, none⟩) 1 cC]) 35)) := scene_var W1 W1 (#[.int .i64 0, .int .i64 0, .int .i64 (-9), .int .i64 0, .int .i64 0, .int .i64 8, .int .i64 1, .int .i64 0, .int .i64 0, .int .i64 0, .int .i64 1, .int .i64 0, .int .i64 2, .int .i64 2, .int .i64 1, .int .i64 0, .int .i64 0, .int .i64 0, .int .i64 0, L, M, T, .slice (some ⟨bS, 0, none⟩) 1 cS, .slice (some ⟨bC, 0, none⟩) 1 cC]) (Below.refl _ _)
  have KB : Blk (W1.alloc (.cells (#[.int .i64 0, .int .i64 0, .int .i64 (-9), .int .i64 0, .int .i64 0, .int .i64 8, .int .i64 1, .int .i64 0, .int .i64 0, .int .i64 0, .int .i64 1, .int .i64 0, .int .i64 2, .int .i64 2, .int .i64 1, .int .i64 0, .int .i64 0, .int .i64 0, .int .i64 0, L, M, T, .slice (some ⟨bS, 0, none⟩) 1 cS, .slice (some ⟨bC, 0, none⟩) 1 cC]) 35)) W1.heap.size 35 (#[.int .i64 0, .int .i64 0, .int .i64 (-9), .int .i64 0, .int .i64 0, .int .i64 8, .int .i64 1, .int .i64 0, .int .i64 0, .int .i64 0, .int .i64 1, .int .i64 0, .int .i64 2, .int .i64 2, .int .i64 1, .int .i64 0, .int .i64 0, .int .i64 0, .int .i64 0, L, M, T, .slice (some ⟨bS, 0, none⟩) 1 cS, .slice (some ⟨bC, 0, none⟩) 1 cC]) := Blk.new _ _ _ _ rfl
  generalize W1.alloc (.cells (#[.int .i64 0, .int .i64 0, .int .i64 (-9), .int .i64 0, .int .i64 0, .int .i64 8, .int .i64 1, .int .i64 0, .int .i64 0, .int .i64 0, .int .i64 1, .int .i64 0, .int .i64 2, .int .i64 2, .int .i64 1, .int .i64 0, .int .i64 0, .int .i64 0, .int .i64 0, L, M, T, .slice (some ⟨bS, 0, none⟩) 1 cS, .slice (some ⟨bC, 0, none⟩) 1 cC]) 35) = W2 at *
  have ht2 := ht.below (hb1.trans (hW2.mono hb1.size))
  go_upto_region 3 with (first | (go_at_call 9; (with_reducible refine Calls.mono (parse_al2 _ _ ?_ ht2) ?_); exact (by kernel_rfl); rintro e W3 ⟨rfl, hb2⟩) | (refine wpList_val rfl _ _ (alloc_Scene _ _ rfl _) ?_) | (refine wpList_store_rowTo rfl 35 _ _ rfl rfl W3.heap.size (scZ) rfl rfl 35 scZ (Blk.new _ _ _ _ rfl) infoSc rfl scZ_one ?_))
  have hW4 : Below W3.heap.size W3 (W3.alloc (.cells scZ 35)) := scene_var W3 W3 scZ (Below.refl _ _)
  generalize W3.alloc (.cells scZ 35) = W4 at *
  have h24 : Below W2.heap.size W2 W4 := hb2.trans (hW4.mono hb2.size)
  have ht4 := ht2.below h24
  go_upto_region 4 with (first | (go_at_call 9; (with_reducible refine Calls.mono (parse_al3 _ _ ?_ ht4) ?_); exact (by kernel_rfl); rintro e W5 ⟨rfl, hb5⟩) | (refine wpList_val rfl _ _ (alloc_Scene _ _ rfl _) ?_) | (refine wpList_store_rowTo rfl 35 _ _ rfl rfl W5.heap.size (scZ) rfl rfl 35 scZ (Blk.new _ _ _ _ rfl) infoSc rfl scZ_one ?_))
  have hW6 : Below W5.heap.size W5 (W5.alloc (.cells scZ 35)) := scene_var W5 W5 scZ (Below.refl _ _)
  generalize W5.alloc (.cells scZ 35) = W6 at *
  have h26 : Below W2.heap.size W2 W6 := h24.trans ((hb5.trans (hW6.mono hb5.size)).mono h24.size)
  have h16 : Below W1.heap.size W1 W6 := hW2.trans (h26.mono hW2.size)
  have h06 : Below w.heap.size w W6 := hb1.trans (h16.mono hb1.size)
  have d2 : W6.cell? ⟨p, 2, none⟩ = some (.int .i64 (-9)) := by rw [hp]; exact (KB.below h26).cell 2
  have d22 : W6.cell? ⟨p, 22, none⟩ = some (.slice (some ⟨bS, 0, none⟩) 1 cS) := by rw [hp]; exact (KB.below h26).cell 22
  have d23 : W6.cell? ⟨p, 23, none⟩ = some (.slice (some ⟨bC, 0, none⟩) 1 cC) := by rw [hp]; exact (KB.below h26).cell 23
  have d4 : W6.cell? ⟨bS, 4, none⟩ = some (.int .i64 (-1)) := (h16.cell hS).trans k4
  have d0 : W6.cell? ⟨bC, 0, none⟩ = some (.slice (some ⟨bv, 0, none⟩) 1 cv) := (h16.cell hC).trans k0
  rw [← hp]
  replace h06 := Lib.hid h06
  clear h16 h26 hW6 hb5 ht4 h24 hW4 hb2 ht2 KB hW2 hp k0 k4 hS hC hb1 ht ho
  go_wp2_with fail
  go_ret
  exact ⟨rfl, h06.out⟩
end Go.Proofs.YtpigcppiiiacfaaDoor

/- For the laws of layer 6: what Parse answers, told by its numbers. -/
namespace Go.Proofs.YtpigcppiiiacfaaDoor
open Go.RowKit
set_option linter.unusedVariables false
set_option linter.unusedSimpArgs false
set_option linter.unnecessarySimpa false

theorem sceneT_inv {l : List UInt8} {sc : Scn} (h : sceneT l = .ok sc) : InvS sc ∧ sc.cam ≠ none := by
  unfold sceneT at h
  cases q : linesP 1 [] (spl l) with
  | error n => rw [q] at h; cases h
  | ok o => rw [q] at h; exact inv_scene h
/-- An answer: a scene's cells, a line, an error; the width, if there is a scene. -/
def resP (w : World) (n k : Int) (e : Ending) (w' : World) : Prop := ∃ (cs : Array Value) (x : Int), e = .returned (.tuple #[.agg cs, .int .i64 n, .int .i64 k]) ∧ Below w.heap.size w w' ∧ cs.size = 24 ∧ cs.all (·.oneCell') = true ∧ cs[12]? = some (.int .i64 x) ∧ (k = 0 → 0 < x)
theorem parse_err (s : ByteArray) (hs : s.size ≤ 65536) (n k : Nat) (hk : 10 ≤ k) (h : sceneT s.data.toList = .error (n, k)) (w : World) (ht : Tabs w) : Calls Tryd.prog 9 #[.string s] w fun e w' => resP w (n : Int) (k : Int) e w' := by
  refine (parse_any w s hs ht).mono ?_
  rintro e w' ⟨hb, hp⟩
  rw [h] at hp
  exact ⟨scZ, 0, hp, hb, rfl, scZ_one, rfl, fun h => by omega⟩
theorem parse_ok (s : ByteArray) (hs : s.size ≤ 65536) (sc : Scn) (h : sceneT s.data.toList = .ok sc) (w : World) (ht : Tabs w) : Calls Tryd.prog 9 #[.string s] w fun e w' => resP w 0 0 e w' := by
  refine (parse_any w s hs ht).mono ?_
  rintro e w' ⟨hb, hp⟩
  rw [h] at hp
  obtain ⟨g, val, rfl, hg, hR⟩ := hp
  obtain ⟨hi, hc⟩ := sceneT_inv h
  refine ⟨sceneV sc val, (camN sc).getD 12 0, rfl, hb, rfl, hR.one, rfl, fun _ => ?_⟩
  unfold camN
  cases q : sc.cam with
  | none => exact absurd q hc
  | some n => have := (hi.cam n q).2.1.1; simp only [Option.getD_some]; omega
/-- What two texts, one with a line more, may answer. -/
def frontsP (n k m f : Int) (no : Nat) : Prop :=
  (k ≠ 0 ∧ n ≠ 0 ∧ ((f = k ∧ m = n) ∨ f = 10)) ∨ (k = 15 ∧ n = 0 ∧ f ≠ 0 ∧ (m = (no : Int) ∨ (f = 15 ∧ m = 0))) ∨ (k = 15 ∧ n = 0 ∧ f = 0) ∨ (k = 0 ∧ n = 0 ∧ f ≠ 0 ∧ m = (no : Int)) ∨ (k = 0 ∧ n = 0 ∧ f = 0)
theorem fronts_calls (s t : ByteArray) (hs : s.size ≤ 5000) (htl : t.size ≤ 1000) (ht : ∀ c ∈ t.data.toList, c ≠ 10) :
    ∃ n k m f : Int, (∀ w : World, Tabs w → Calls Tryd.prog 9 #[.string s] w fun e w' => resP w n k e w') ∧ (∀ w : World, Tabs w → Calls Tryd.prog 9 #[.string (s ++ (⟨#[10]⟩ : ByteArray) ++ t)] w fun e w' => resP w m f e w') ∧ frontsP n k m f (ends (nb s.data.toList) + 2) := by
  have h1 : s.size ≤ 65536 := by omega
  have h2 : (s ++ (⟨#[10]⟩ : ByteArray) ++ t).size ≤ 65536 := by
    have : (s ++ (⟨#[10]⟩ : ByteArray) ++ t).size = s.size + 1 + t.size := by simp [ByteArray.size_append]; rfl
    omega
  rcases fronts_run s t ht with ⟨n, e, q1, q2, q3, q4 | ⟨m, q4⟩⟩ | ⟨q1, ⟨e, q3, q4⟩ | q4 | ⟨sc, q4⟩⟩ | ⟨sc, q1, ⟨e, q3, q4⟩ | ⟨sc2, q4⟩⟩
  · exact ⟨n, e, n, e, parse_err s h1 n e q3.1 q1, parse_err _ h2 n e q3.1 q4, .inl ⟨by omega, by omega, .inl ⟨rfl, rfl⟩⟩⟩
  · exact ⟨n, e, m, (10 : Nat), parse_err s h1 n e q3.1 q1, parse_err _ h2 m 10 (by omega) q4, .inl ⟨by omega, by omega, .inr rfl⟩⟩
  · exact ⟨(0 : Nat), (15 : Nat), _, e, parse_err s h1 0 15 (by omega) q1, parse_err _ h2 _ e q3.1 q4, .inr (.inl ⟨rfl, rfl, by omega, .inl rfl⟩)⟩
  · exact ⟨(0 : Nat), (15 : Nat), (0 : Nat), (15 : Nat), parse_err s h1 0 15 (by omega) q1, parse_err _ h2 0 15 (by omega) q4, .inr (.inl ⟨rfl, rfl, by omega, .inr ⟨rfl, rfl⟩⟩)⟩
  · exact ⟨(0 : Nat), (15 : Nat), 0, 0, parse_err s h1 0 15 (by omega) q1, parse_ok _ h2 sc q4, .inr (.inr (.inl ⟨rfl, rfl, rfl⟩))⟩
  · exact ⟨0, 0, _, e, parse_ok s h1 sc q1, parse_err _ h2 _ e q3.1 q4, .inr (.inr (.inr (.inl ⟨rfl, rfl, by omega, rfl⟩)))⟩
  · exact ⟨0, 0, 0, 0, parse_ok s h1 sc q1, parse_ok _ h2 sc2 q4, .inr (.inr (.inr (.inr ⟨rfl, rfl, rfl⟩)))⟩
end Go.Proofs.YtpigcppiiiacfaaDoor
