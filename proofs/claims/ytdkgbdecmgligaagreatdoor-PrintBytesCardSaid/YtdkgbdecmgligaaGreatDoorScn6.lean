/- Scenes that are the same. -/
import Derived.Test.YtdkgbdecmgligaaGreatDoorMScnS
namespace Go.Proofs.YtdkgbdecmgligaaGreatDoor
open Go.RowKit
set_option linter.unusedVariables false
set_option linter.unusedSimpArgs false
theorem flat_len {α : Type} (f : α → List Value) (sz : Nat) (hf : ∀ a, (f a).length = sz) : ∀ l : List α, (l.flatMap f).length = l.length * sz
  | [] => by simp
  | p :: l => by
    rw [List.flatMap_cons, List.length_append, hf, flat_len f sz hf l, List.length_cons, Nat.succ_mul]
    omega
theorem flat_get {α : Type} (f : α → List Value) (sz : Nat) (hf : ∀ a, (f a).length = sz) : ∀ (l : List α) (i : Nat) (h : i < l.length) (j : Nat), j < sz → (l.flatMap f)[i * sz + j]? = (f l[i])[j]?
  | [], i, h, _, _ => by simp at h
  | p :: l, 0, _, j, hj => by
    rw [List.flatMap_cons, List.getElem?_append_left (by rw [hf]; omega)]
    simp
  | p :: l, i + 1, h, j, hj => by
    rw [List.flatMap_cons, List.getElem?_append_right (by rw [hf, Nat.succ_mul]; omega), hf]
    rw [show (i + 1) * sz + j - sz = i * sz + j by rw [Nat.succ_mul]; omega]
    exact flat_get f sz hf l i (by simpa using h) j hj
def fL (p : List Int) : List Value := [.int .i64 (p.getD 0 0), .int .i64 (p.getD 1 0), .int .i64 (p.getD 2 0), .int .i64 (p.getD 3 0), .int .i64 (p.getD 4 0), .int .i64 (p.getD 5 0)]
def fM (q : Wd × List Int) : List Value := [.string ⟨q.1.toArray⟩, .int .i64 (q.2.getD 0 0), .int .i64 (q.2.getD 1 0), .int .i64 (q.2.getD 2 0), .int .i64 (q.2.getD 3 0), .int .i64 (q.2.getD 4 0), .int .i64 (q.2.getD 5 0), .int .i64 (q.2.getD 6 0), .int .i64 (q.2.getD 7 0)]
def fT (q : (Wd × List Int) × Value) : List Value := [.string ⟨q.1.1.toArray⟩, .int .i64 (q.1.2.getD 0 0), .int .i64 (q.1.2.getD 1 0), q.2]
def fS (k : SkinM) : List Value := [.string ⟨k.name.toArray⟩, .int .i64 (k.mat : Int), .int .i64 k.levels, .int .i64 k.unit, .int .i64 k.tex, .int .i64 k.height]
def fC (t : Value × Value × Value) : List Value := [t.1, t.2.1, t.2.2]
/-- A scene's rows read so. -/
structure SceneR (W : World) (vl vm vt vs vk : Value) (sc : Scn) : Prop where
  lights : ∃ A k, vl = .slice A sc.lights.length k ∧ CF W A (sc.lights.flatMap fL) ∧ sc.lights.length ≤ 65536
  mats : ∃ A k, vm = .slice A sc.mats.length k ∧ CF W A (sc.mats.flatMap fM) ∧ sc.mats.length ≤ 65536
  texs : ∃ (A : Option Addr) (k : Nat) (ss : List ((Wd × List Int) × Value)), vt = .slice A sc.texs.length k ∧ CF W A (ss.flatMap fT) ∧ ss.map (·.1) = sc.texs ∧ sc.texs.length ≤ 65536 ∧ ∀ q ∈ ss, ∃ B m, q.2 = .slice B (q.1.2.drop 2).length m ∧ IF W B (q.1.2.drop 2) ∧ (q.1.2.drop 2).length ≤ 65536
  skins : ∃ A k, vs = .slice A sc.skins.length k ∧ CF W A (sc.skins.flatMap fS) ∧ sc.skins.length ≤ 65536
  cages : ∃ (A : Option Addr) (k : Nat) (cs : List (Value × Value × Value)), vk = .slice A sc.cages.length k ∧ CF W A (cs.flatMap fC) ∧ cs.length = sc.cages.length ∧ sc.cages.length ≤ 65536 ∧ ∀ i (h : i < cs.length) (h2 : i < sc.cages.length), CageR W cs[i].1 cs[i].2.1 cs[i].2.2 sc.cages[i]
theorem SceneR.below {W W' : World} {vl vm vt vs vk : Value} {sc : Scn} (h : SceneR W vl vm vt vs vk sc) (hb : Below W.heap.size W W') : SceneR W' vl vm vt vs vk sc := by
  refine ⟨?_, ?_, ?_, ?_, ?_⟩
  · obtain ⟨A, k, e, h1, h2⟩ := h.lights
    exact ⟨A, k, e, h1.below hb, h2⟩
  · obtain ⟨A, k, e, h1, h2⟩ := h.mats
    exact ⟨A, k, e, h1.below hb, h2⟩
  · obtain ⟨A, k, ss, e, h1, h2, h3, h4⟩ := h.texs
    exact ⟨A, k, ss, e, h1.below hb, h2, h3, fun q hq => by
      obtain ⟨B, m, e1, e2, e3⟩ := h4 q hq
      exact ⟨B, m, e1, e2.below hb, e3⟩⟩
  · obtain ⟨A, k, e, h1, h2⟩ := h.skins
    exact ⟨A, k, e, h1.below hb, h2⟩
  · obtain ⟨A, k, cs, e, h1, h2, h3, h4⟩ := h.cages
    exact ⟨A, k, cs, e, h1.below hb, h2, h3, fun i hi hi2 => (h4 i hi hi2).below hb⟩
set_option maxRecDepth 100000 in
set_option maxHeartbeats 8000000 in
theorem same_yes6 (w : World) (n s : List Int) (vl vm vt vs vk yl ym yt ys yk : Value) (sc : Scn) (hsk : sc.skins.length = sc.cages.length) (hA : SceneR w vl vm vt vs vk sc) (hB : SceneR w yl ym yt ys yk sc) :
    Calls Tryz.prog 12 #[.agg #[.int .i64 (n.getD 0 0), .int .i64 (n.getD 1 0), .int .i64 (n.getD 2 0), .int .i64 (n.getD 3 0), .int .i64 (n.getD 4 0), .int .i64 (n.getD 5 0), .int .i64 (n.getD 6 0), .int .i64 (n.getD 7 0), .int .i64 (n.getD 8 0), .int .i64 (n.getD 9 0), .int .i64 (n.getD 10 0), .int .i64 (n.getD 11 0), .int .i64 (n.getD 12 0), .int .i64 (n.getD 13 0), .int .i64 (n.getD 14 0), .int .i64 (n.getD 15 0), .int .i64 (s.getD 0 0), .int .i64 (s.getD 1 0), .int .i64 (s.getD 2 0), vl, vm, vt, vs, vk], .agg #[.int .i64 (n.getD 0 0), .int .i64 (n.getD 1 0), .int .i64 (n.getD 2 0), .int .i64 (n.getD 3 0), .int .i64 (n.getD 4 0), .int .i64 (n.getD 5 0), .int .i64 (n.getD 6 0), .int .i64 (n.getD 7 0), .int .i64 (n.getD 8 0), .int .i64 (n.getD 9 0), .int .i64 (n.getD 10 0), .int .i64 (n.getD 11 0), .int .i64 (n.getD 12 0), .int .i64 (n.getD 13 0), .int .i64 (n.getD 14 0), .int .i64 (n.getD 15 0), .int .i64 (s.getD 0 0), .int .i64 (s.getD 1 0), .int .i64 (s.getD 2 0), yl, ym, yt, ys, yk]] w fun e w' => e = .returned (.bool true) ∧ ∃ x, w' = grow w x := by
  have hW : Below w.heap.size w ((w.alloc (.cells #[.int .i64 (n.getD 0 0), .int .i64 (n.getD 1 0), .int .i64 (n.getD 2 0), .int .i64 (n.getD 3 0), .int .i64 (n.getD 4 0), .int .i64 (n.getD 5 0), .int .i64 (n.getD 6 0), .int .i64 (n.getD 7 0), .int .i64 (n.getD 8 0), .int .i64 (n.getD 9 0), .int .i64 (n.getD 10 0), .int .i64 (n.getD 11 0), .int .i64 (n.getD 12 0), .int .i64 (n.getD 13 0), .int .i64 (n.getD 14 0), .int .i64 (n.getD 15 0), .int .i64 (s.getD 0 0), .int .i64 (s.getD 1 0), .int .i64 (s.getD 2 0), vl, vm, vt, vs, vk] 34)).alloc (.cells #[.int .i64 (n.getD 0 0), .int .i64 (n.getD 1 0), .int .i64 (n.getD 2 0), .int .i64 (n.getD 3 0), .int .i64 (n.getD 4 0), .int .i64 (n.getD 5 0), .int .i64 (n.getD 6 0), .int .i64 (n.getD 7 0), .int .i64 (n.getD 8 0), .int .i64 (n.getD 9 0), .int .i64 (n.getD 10 0), .int .i64 (n.getD 11 0), .int .i64 (n.getD 12 0), .int .i64 (n.getD 13 0), .int .i64 (n.getD 14 0), .int .i64 (n.getD 15 0), .int .i64 (s.getD 0 0), .int .i64 (s.getD 1 0), .int .i64 (s.getD 2 0), yl, ym, yt, ys, yk] 34)) := bel_alloc (bel_alloc (Below.refl _ _) _) _
  have hA2 := hA.below hW
  have hB2 := hB.below hW
  obtain ⟨A1, a1, rfl, CL, l1⟩ := hA2.lights
  obtain ⟨A2, a2, rfl, CM, l2⟩ := hA2.mats
  obtain ⟨A3, a3, ss, rfl, CT, hsl, l3, hss⟩ := hA2.texs
  obtain ⟨A4, a4, q4, CS, l4⟩ := hA2.skins
  rw [hsk] at q4
  subst q4
  obtain ⟨A5, a5, cs, rfl, CK, hcl, l5, hcs⟩ := hA2.cages
  obtain ⟨X1, x1, rfl, DL, _⟩ := hB2.lights
  obtain ⟨X2, x2, rfl, DM, _⟩ := hB2.mats
  obtain ⟨X3, x3, us, rfl, DT, hul, _, hus⟩ := hB2.texs
  obtain ⟨X4, x4, q4, DS, _⟩ := hB2.skins
  rw [hsk] at q4
  subst q4
  obtain ⟨X5, x5, ds, rfl, DK, hdl, _, hds⟩ := hB2.cages
  clear hA hB hA2 hB2
  have hsn : ss.length = sc.texs.length := by rw [← hsl, List.length_map]
  have hun : us.length = sc.texs.length := by rw [← hul, List.length_map]
  have hsu : ∀ k (h1 : k < us.length) (h2 : k < ss.length), (us[k]).1 = (ss[k]).1 := fun k h1 h2 => by
    have e1 : (us.map (·.1))[k]? = (ss.map (·.1))[k]? := by rw [hul, hsl]
    simpa [h1, h2] using e1
  obtain ⟨W2, hW2⟩ : ∃ W2, W2 = (w.alloc (.cells #[.int .i64 (n.getD 0 0), .int .i64 (n.getD 1 0), .int .i64 (n.getD 2 0), .int .i64 (n.getD 3 0), .int .i64 (n.getD 4 0), .int .i64 (n.getD 5 0), .int .i64 (n.getD 6 0), .int .i64 (n.getD 7 0), .int .i64 (n.getD 8 0), .int .i64 (n.getD 9 0), .int .i64 (n.getD 10 0), .int .i64 (n.getD 11 0), .int .i64 (n.getD 12 0), .int .i64 (n.getD 13 0), .int .i64 (n.getD 14 0), .int .i64 (n.getD 15 0), .int .i64 (s.getD 0 0), .int .i64 (s.getD 1 0), .int .i64 (s.getD 2 0), .slice A1 sc.lights.length a1, .slice A2 sc.mats.length a2, .slice A3 sc.texs.length a3, .slice A4 sc.cages.length a4, .slice A5 sc.cages.length a5] 34)).alloc (.cells #[.int .i64 (n.getD 0 0), .int .i64 (n.getD 1 0), .int .i64 (n.getD 2 0), .int .i64 (n.getD 3 0), .int .i64 (n.getD 4 0), .int .i64 (n.getD 5 0), .int .i64 (n.getD 6 0), .int .i64 (n.getD 7 0), .int .i64 (n.getD 8 0), .int .i64 (n.getD 9 0), .int .i64 (n.getD 10 0), .int .i64 (n.getD 11 0), .int .i64 (n.getD 12 0), .int .i64 (n.getD 13 0), .int .i64 (n.getD 14 0), .int .i64 (n.getD 15 0), .int .i64 (s.getD 0 0), .int .i64 (s.getD 1 0), .int .i64 (s.getD 2 0), .slice X1 sc.lights.length x1, .slice X2 sc.mats.length x2, .slice X3 sc.texs.length x3, .slice X4 sc.cages.length x4, .slice X5 sc.cages.length x5] 34) := ⟨_, rfl⟩
  obtain ⟨g1, hg1⟩ : ∃ g1, g1 = w.heap.size := ⟨_, rfl⟩
  have F1 : Blk W2 g1 34 #[.int .i64 (n.getD 0 0), .int .i64 (n.getD 1 0), .int .i64 (n.getD 2 0), .int .i64 (n.getD 3 0), .int .i64 (n.getD 4 0), .int .i64 (n.getD 5 0), .int .i64 (n.getD 6 0), .int .i64 (n.getD 7 0), .int .i64 (n.getD 8 0), .int .i64 (n.getD 9 0), .int .i64 (n.getD 10 0), .int .i64 (n.getD 11 0), .int .i64 (n.getD 12 0), .int .i64 (n.getD 13 0), .int .i64 (n.getD 14 0), .int .i64 (n.getD 15 0), .int .i64 (s.getD 0 0), .int .i64 (s.getD 1 0), .int .i64 (s.getD 2 0), .slice A1 sc.lights.length a1, .slice A2 sc.mats.length a2, .slice A3 sc.texs.length a3, .slice A4 sc.cages.length a4, .slice A5 sc.cages.length a5] := by
    rw [hW2, hg1]
    exact (Blk.new _ _ _ _ rfl).alloc _
  have F2 : Blk W2 (g1 + 1) 34 #[.int .i64 (n.getD 0 0), .int .i64 (n.getD 1 0), .int .i64 (n.getD 2 0), .int .i64 (n.getD 3 0), .int .i64 (n.getD 4 0), .int .i64 (n.getD 5 0), .int .i64 (n.getD 6 0), .int .i64 (n.getD 7 0), .int .i64 (n.getD 8 0), .int .i64 (n.getD 9 0), .int .i64 (n.getD 10 0), .int .i64 (n.getD 11 0), .int .i64 (n.getD 12 0), .int .i64 (n.getD 13 0), .int .i64 (n.getD 14 0), .int .i64 (n.getD 15 0), .int .i64 (s.getD 0 0), .int .i64 (s.getD 1 0), .int .i64 (s.getD 2 0), .slice X1 sc.lights.length x1, .slice X2 sc.mats.length x2, .slice X3 sc.texs.length x3, .slice X4 sc.cages.length x4, .slice X5 sc.cages.length x5] := by
    rw [hW2, hg1]
    exact Blk.new _ _ _ _ (by simp)
  rw [← hW2] at hW CL CM CT CS CK DL DM DT DS DK
  simp only [← hW2] at hss hus hcs hds
  have f0 := F1.cell 0
  have e0 := F2.cell 0
  simp only [List.getElem?_toArray, List.getElem?_cons_zero, List.getElem?_cons_succ] at f0 e0
  have f1 := F1.cell 1
  have e1 := F2.cell 1
  simp only [List.getElem?_toArray, List.getElem?_cons_zero, List.getElem?_cons_succ] at f1 e1
  have f2 := F1.cell 2
  have e2 := F2.cell 2
  simp only [List.getElem?_toArray, List.getElem?_cons_zero, List.getElem?_cons_succ] at f2 e2
  have f3 := F1.cell 3
  have e3 := F2.cell 3
  simp only [List.getElem?_toArray, List.getElem?_cons_zero, List.getElem?_cons_succ] at f3 e3
  have f4 := F1.cell 4
  have e4 := F2.cell 4
  simp only [List.getElem?_toArray, List.getElem?_cons_zero, List.getElem?_cons_succ] at f4 e4
  have f5 := F1.cell 5
  have e5 := F2.cell 5
  simp only [List.getElem?_toArray, List.getElem?_cons_zero, List.getElem?_cons_succ] at f5 e5
  have f6 := F1.cell 6
  have e6 := F2.cell 6
  simp only [List.getElem?_toArray, List.getElem?_cons_zero, List.getElem?_cons_succ] at f6 e6
  have f7 := F1.cell 7
  have e7 := F2.cell 7
  simp only [List.getElem?_toArray, List.getElem?_cons_zero, List.getElem?_cons_succ] at f7 e7
  have f8 := F1.cell 8
  have e8 := F2.cell 8
  simp only [List.getElem?_toArray, List.getElem?_cons_zero, List.getElem?_cons_succ] at f8 e8
  have f9 := F1.cell 9
  have e9 := F2.cell 9
  simp only [List.getElem?_toArray, List.getElem?_cons_zero, List.getElem?_cons_succ] at f9 e9
  have f10 := F1.cell 10
  have e10 := F2.cell 10
  simp only [List.getElem?_toArray, List.getElem?_cons_zero, List.getElem?_cons_succ] at f10 e10
  have f11 := F1.cell 11
  have e11 := F2.cell 11
  simp only [List.getElem?_toArray, List.getElem?_cons_zero, List.getElem?_cons_succ] at f11 e11
  have f12 := F1.cell 12
  have e12 := F2.cell 12
  simp only [List.getElem?_toArray, List.getElem?_cons_zero, List.getElem?_cons_succ] at f12 e12
  have f13 := F1.cell 13
  have e13 := F2.cell 13
  simp only [List.getElem?_toArray, List.getElem?_cons_zero, List.getElem?_cons_succ] at f13 e13
  have f14 := F1.cell 14
  have e14 := F2.cell 14
  simp only [List.getElem?_toArray, List.getElem?_cons_zero, List.getElem?_cons_succ] at f14 e14
  have f15 := F1.cell 15
  have e15 := F2.cell 15
  simp only [List.getElem?_toArray, List.getElem?_cons_zero, List.getElem?_cons_succ] at f15 e15
  have f16 := F1.cell 16
  have e16 := F2.cell 16
  simp only [List.getElem?_toArray, List.getElem?_cons_zero, List.getElem?_cons_succ] at f16 e16
  have f17 := F1.cell 17
  have e17 := F2.cell 17
  simp only [List.getElem?_toArray, List.getElem?_cons_zero, List.getElem?_cons_succ] at f17 e17
  have f18 := F1.cell 18
  have e18 := F2.cell 18
  simp only [List.getElem?_toArray, List.getElem?_cons_zero, List.getElem?_cons_succ] at f18 e18
  have f19 := F1.cell 19
  have e19 := F2.cell 19
  simp only [List.getElem?_toArray, List.getElem?_cons_zero, List.getElem?_cons_succ] at f19 e19
  have f20 := F1.cell 20
  have e20 := F2.cell 20
  simp only [List.getElem?_toArray, List.getElem?_cons_zero, List.getElem?_cons_succ] at f20 e20
  have f21 := F1.cell 21
  have e21 := F2.cell 21
  simp only [List.getElem?_toArray, List.getElem?_cons_zero, List.getElem?_cons_succ] at f21 e21
  have f22 := F1.cell 22
  have e22 := F2.cell 22
  simp only [List.getElem?_toArray, List.getElem?_cons_zero, List.getElem?_cons_succ] at f22 e22
  have f23 := F1.cell 23
  have e23 := F2.cell 23
  simp only [List.getElem?_toArray, List.getElem?_cons_zero, List.getElem?_cons_succ] at f23 e23
  have fl1 := F1.lt
  have fl2 := F2.lt
  clear hsl hul
  generalize n.getD 0 0 = m0 at *
  generalize n.getD 1 0 = m1 at *
  generalize n.getD 2 0 = m2 at *
  generalize n.getD 3 0 = m3 at *
  generalize n.getD 4 0 = m4 at *
  generalize n.getD 5 0 = m5 at *
  generalize n.getD 6 0 = m6 at *
  generalize n.getD 7 0 = m7 at *
  generalize n.getD 8 0 = m8 at *
  generalize n.getD 9 0 = m9 at *
  generalize n.getD 10 0 = m10 at *
  generalize n.getD 11 0 = m11 at *
  generalize n.getD 12 0 = m12 at *
  generalize n.getD 13 0 = m13 at *
  generalize n.getD 14 0 = m14 at *
  generalize n.getD 15 0 = m15 at *
  generalize s.getD 0 0 = r0 at *
  generalize s.getD 1 0 = r1 at *
  generalize s.getD 2 0 = r2 at *
  have e16 : ∀ w : World, (binOp .neq 25 (.agg #[.int .i64 m0, .int .i64 m1, .int .i64 m2, .int .i64 m3, .int .i64 m4, .int .i64 m5, .int .i64 m6, .int .i64 m7, .int .i64 m8, .int .i64 m9, .int .i64 m10, .int .i64 m11, .int .i64 m12, .int .i64 m13, .int .i64 m14, .int .i64 m15]) (.agg #[.int .i64 m0, .int .i64 m1, .int .i64 m2, .int .i64 m3, .int .i64 m4, .int .i64 m5, .int .i64 m6, .int .i64 m7, .int .i64 m8, .int .i64 m9, .int .i64 m10, .int .i64 m11, .int .i64 m12, .int .i64 m13, .int .i64 m14, .int .i64 m15])).run Tryz.prog w = .ok (.bool false) w := by
    intro w; go_simp
  have e3' : ∀ w : World, (binOp .neq 27 (.agg #[.int .i64 r0, .int .i64 r1, .int .i64 r2]) (.agg #[.int .i64 r0, .int .i64 r1, .int .i64 r2])).run Tryz.prog w = .ok (.bool false) w := by
    intro w; go_simp
  have PK := Lib.hid (And.intro (And.intro CL (And.intro CM (And.intro CT (And.intro CS CK)))) (And.intro (And.intro DL (And.intro DM (And.intro DT (And.intro DS DK)))) (And.intro hss (And.intro hus (And.intro hcs (And.intro hds hW))))))
  clear CL CM CT CS CK DL DM DT DS DK hss hus hcs hds hW F1 F2
  go_enter Tryz.func12, Tryz.ntmps12
  go_wp2
  rw [← hW2, ← hg1]
  obtain ⟨⟨CL, CM, CT, CS, CK⟩, ⟨DL, DM, DT, DS, DK⟩, hss, hus, hcs, hds, hW⟩ := PK.out
  clear PK hW2 hg1
  go_loopw [5] (fun i wr => ∃ k : Nat, i = .int .i64 (k : Int) ∧ k ≤ sc.lights.length ∧ ∃ x, wr = grow W2 x) (fun i _ => sc.lights.length - (intOf i).toNat)
  case atStart => exact ⟨0, rfl, by omega, grow_of (by repeat (first | with_reducible exact Below.refl _ _ | with_reducible refine bel_then ?_ _ | with_reducible refine bel_grow ?_ _ | with_reducible refine bel_alloc ?_ _ | with_reducible refine bel_drew ?_ | with_reducible refine bel_set ?_ (by simp) _ | with_reducible refine bel_setRow ?_ (by first | omega | (simp; done)) _))⟩
  case round =>
    obtain ⟨k, rfl, hk, xx, rfl⟩ := hrel
    by_cases hlt : k < sc.lights.length
    · obtain ⟨b, off, rfl, hb, hc⟩ := CL (by rw [flat_len fL 6 (fun _ => rfl)]; omega)
      obtain ⟨b2, off2, rfl, hb2, hc2⟩ := DL (by rw [flat_len fL 6 (fun _ => rfl)]; omega)
      have c0 := hc (k * 6 + 0) (by rw [flat_len fL 6 (fun _ => rfl)]; omega)
      have d0 := hc2 (k * 6 + 0) (by rw [flat_len fL 6 (fun _ => rfl)]; omega)
      rw [flat_get fL 6 (fun _ => rfl) sc.lights k (by omega) 0 (by omega), Nat.add_zero] at c0 d0
      have c1 := hc (k * 6 + 1) (by rw [flat_len fL 6 (fun _ => rfl)]; omega)
      have d1 := hc2 (k * 6 + 1) (by rw [flat_len fL 6 (fun _ => rfl)]; omega)
      rw [flat_get fL 6 (fun _ => rfl) sc.lights k (by omega) 1 (by omega), ← Nat.add_assoc] at c1 d1
      have c2 := hc (k * 6 + 2) (by rw [flat_len fL 6 (fun _ => rfl)]; omega)
      have d2 := hc2 (k * 6 + 2) (by rw [flat_len fL 6 (fun _ => rfl)]; omega)
      rw [flat_get fL 6 (fun _ => rfl) sc.lights k (by omega) 2 (by omega), ← Nat.add_assoc] at c2 d2
      have c3 := hc (k * 6 + 3) (by rw [flat_len fL 6 (fun _ => rfl)]; omega)
      have d3 := hc2 (k * 6 + 3) (by rw [flat_len fL 6 (fun _ => rfl)]; omega)
      rw [flat_get fL 6 (fun _ => rfl) sc.lights k (by omega) 3 (by omega), ← Nat.add_assoc] at c3 d3
      have c4 := hc (k * 6 + 4) (by rw [flat_len fL 6 (fun _ => rfl)]; omega)
      have d4 := hc2 (k * 6 + 4) (by rw [flat_len fL 6 (fun _ => rfl)]; omega)
      rw [flat_get fL 6 (fun _ => rfl) sc.lights k (by omega) 4 (by omega), ← Nat.add_assoc] at c4 d4
      have c5 := hc (k * 6 + 5) (by rw [flat_len fL 6 (fun _ => rfl)]; omega)
      have d5 := hc2 (k * 6 + 5) (by rw [flat_len fL 6 (fun _ => rfl)]; omega)
      rw [flat_get fL 6 (fun _ => rfl) sc.lights k (by omega) 5 (by omega), ← Nat.add_assoc] at c5 d5
      simp only [fL, List.getElem?_cons_zero, List.getElem?_cons_succ] at c0 d0 c1 d1 c2 d2 c3 d3 c4 d4 c5 d5
      generalize (sc.lights[k]).getD 0 0 = p0 at *
      generalize (sc.lights[k]).getD 1 0 = p1 at *
      generalize (sc.lights[k]).getD 2 0 = p2 at *
      generalize (sc.lights[k]).getD 3 0 = p3 at *
      generalize (sc.lights[k]).getD 4 0 = p4 at *
      generalize (sc.lights[k]).getD 5 0 = p5 at *
      have e : ∀ w : World, (binOp .neq 76 (.agg #[.int .i64 p0, .int .i64 p1, .int .i64 p2, .int .i64 p3, .int .i64 p4, .int .i64 p5]) (.agg #[.int .i64 p0, .int .i64 p1, .int .i64 p2, .int .i64 p3, .int .i64 p4, .int .i64 p5])).run Tryz.prog w = .ok (.bool false) w := by
        intro w; go_simp
      have k0 : (0 : Int) ≤ (k : Int) := by omega
      have k1 : (k : Int) < (sc.lights.length : Int) := by omega
      clear hc hc2
      go_wp2_with fail
      refine wp_region_grow (by kernel_rfl) (by kernel_rfl) ?_
      repeat (go_big_quiet_step ((fail)))
      refine wpQuiet_nil ?_
      rintro _ ⟨xg, rfl⟩
      go_wp2_with fail
      go_roundw
      case rel => exact ⟨k + 1, by go_num, by omega, grow_of (by repeat (first | with_reducible exact Below.refl _ _ | with_reducible refine bel_then ?_ _ | with_reducible refine bel_grow ?_ _ | with_reducible refine bel_alloc ?_ _ | with_reducible refine bel_drew ?_ | with_reducible refine bel_set ?_ (by simp) _ | with_reducible refine bel_setRow ?_ (by first | omega | (simp; done) | exact top_le _ _ | exact Nat.le_succ_of_le (top_le _ _)) _))⟩
      case measure => simp [intOf] <;> omega
    · obtain rfl : k = sc.lights.length := by omega
      go_wp2
      go_loopw [6] (fun i wr => ∃ k : Nat, i = .int .i64 (k : Int) ∧ k ≤ sc.mats.length ∧ ∃ x, wr = grow W2 x) (fun i _ => sc.mats.length - (intOf i).toNat)
      case atStart => exact ⟨0, rfl, by omega, grow_of (by repeat (first | with_reducible exact Below.refl _ _ | with_reducible refine bel_then ?_ _ | with_reducible refine bel_grow ?_ _ | with_reducible refine bel_alloc ?_ _ | with_reducible refine bel_drew ?_ | with_reducible refine bel_set ?_ (by simp) _ | with_reducible refine bel_setRow ?_ (by first | omega | (simp; done)) _))⟩
      case round =>
        obtain ⟨k, rfl, hk, xx, rfl⟩ := hrel
        by_cases hlt : k < sc.mats.length
        · obtain ⟨b, off, rfl, hb, hc⟩ := CM (by rw [flat_len fM 9 (fun _ => rfl)]; omega)
          obtain ⟨b2, off2, rfl, hb2, hc2⟩ := DM (by rw [flat_len fM 9 (fun _ => rfl)]; omega)
          have c0 := hc (k * 9 + 0) (by rw [flat_len fM 9 (fun _ => rfl)]; omega)
          have d0 := hc2 (k * 9 + 0) (by rw [flat_len fM 9 (fun _ => rfl)]; omega)
          rw [flat_get fM 9 (fun _ => rfl) sc.mats k (by omega) 0 (by omega), Nat.add_zero] at c0 d0
          have c1 := hc (k * 9 + 1) (by rw [flat_len fM 9 (fun _ => rfl)]; omega)
          have d1 := hc2 (k * 9 + 1) (by rw [flat_len fM 9 (fun _ => rfl)]; omega)
          rw [flat_get fM 9 (fun _ => rfl) sc.mats k (by omega) 1 (by omega), ← Nat.add_assoc] at c1 d1
          have c2 := hc (k * 9 + 2) (by rw [flat_len fM 9 (fun _ => rfl)]; omega)
          have d2 := hc2 (k * 9 + 2) (by rw [flat_len fM 9 (fun _ => rfl)]; omega)
          rw [flat_get fM 9 (fun _ => rfl) sc.mats k (by omega) 2 (by omega), ← Nat.add_assoc] at c2 d2
          have c3 := hc (k * 9 + 3) (by rw [flat_len fM 9 (fun _ => rfl)]; omega)
          have d3 := hc2 (k * 9 + 3) (by rw [flat_len fM 9 (fun _ => rfl)]; omega)
          rw [flat_get fM 9 (fun _ => rfl) sc.mats k (by omega) 3 (by omega), ← Nat.add_assoc] at c3 d3
          have c4 := hc (k * 9 + 4) (by rw [flat_len fM 9 (fun _ => rfl)]; omega)
          have d4 := hc2 (k * 9 + 4) (by rw [flat_len fM 9 (fun _ => rfl)]; omega)
          rw [flat_get fM 9 (fun _ => rfl) sc.mats k (by omega) 4 (by omega), ← Nat.add_assoc] at c4 d4
          have c5 := hc (k * 9 + 5) (by rw [flat_len fM 9 (fun _ => rfl)]; omega)
          have d5 := hc2 (k * 9 + 5) (by rw [flat_len fM 9 (fun _ => rfl)]; omega)
          rw [flat_get fM 9 (fun _ => rfl) sc.mats k (by omega) 5 (by omega), ← Nat.add_assoc] at c5 d5
          have c6 := hc (k * 9 + 6) (by rw [flat_len fM 9 (fun _ => rfl)]; omega)
          have d6 := hc2 (k * 9 + 6) (by rw [flat_len fM 9 (fun _ => rfl)]; omega)
          rw [flat_get fM 9 (fun _ => rfl) sc.mats k (by omega) 6 (by omega), ← Nat.add_assoc] at c6 d6
          have c7 := hc (k * 9 + 7) (by rw [flat_len fM 9 (fun _ => rfl)]; omega)
          have d7 := hc2 (k * 9 + 7) (by rw [flat_len fM 9 (fun _ => rfl)]; omega)
          rw [flat_get fM 9 (fun _ => rfl) sc.mats k (by omega) 7 (by omega), ← Nat.add_assoc] at c7 d7
          have c8 := hc (k * 9 + 8) (by rw [flat_len fM 9 (fun _ => rfl)]; omega)
          have d8 := hc2 (k * 9 + 8) (by rw [flat_len fM 9 (fun _ => rfl)]; omega)
          rw [flat_get fM 9 (fun _ => rfl) sc.mats k (by omega) 8 (by omega), ← Nat.add_assoc] at c8 d8
          simp only [fM, List.getElem?_cons_zero, List.getElem?_cons_succ] at c0 d0 c1 d1 c2 d2 c3 d3 c4 d4 c5 d5 c6 d6 c7 d7 c8 d8
          generalize (⟨(sc.mats[k]).1.toArray⟩ : ByteArray) = t at *
          generalize (sc.mats[k]).2.getD 0 0 = p0 at *
          generalize (sc.mats[k]).2.getD 1 0 = p1 at *
          generalize (sc.mats[k]).2.getD 2 0 = p2 at *
          generalize (sc.mats[k]).2.getD 3 0 = p3 at *
          generalize (sc.mats[k]).2.getD 4 0 = p4 at *
          generalize (sc.mats[k]).2.getD 5 0 = p5 at *
          generalize (sc.mats[k]).2.getD 6 0 = p6 at *
          generalize (sc.mats[k]).2.getD 7 0 = p7 at *
          have e : ∀ w : World, (binOp .neq 53 (.agg #[.string t, .int .i64 p0, .int .i64 p1, .int .i64 p2, .int .i64 p3, .int .i64 p4, .int .i64 p5, .int .i64 p6, .int .i64 p7]) (.agg #[.string t, .int .i64 p0, .int .i64 p1, .int .i64 p2, .int .i64 p3, .int .i64 p4, .int .i64 p5, .int .i64 p6, .int .i64 p7])).run Tryz.prog w = .ok (.bool false) w := by
            intro w; go_simp
          have k0 : (0 : Int) ≤ (k : Int) := by omega
          have k1 : (k : Int) < (sc.mats.length : Int) := by omega
          clear hc hc2
          go_wp2_with fail
          refine wp_region_grow (by kernel_rfl) (by kernel_rfl) ?_
          repeat (go_big_quiet_step ((fail)))
          refine wpQuiet_nil ?_
          rintro _ ⟨xg, rfl⟩
          go_wp2_with fail
          go_roundw
          case rel => exact ⟨k + 1, by go_num, by omega, grow_of (by repeat (first | with_reducible exact Below.refl _ _ | with_reducible refine bel_then ?_ _ | with_reducible refine bel_grow ?_ _ | with_reducible refine bel_alloc ?_ _ | with_reducible refine bel_drew ?_ | with_reducible refine bel_set ?_ (by simp) _ | with_reducible refine bel_setRow ?_ (by first | omega | (simp; done) | exact top_le _ _ | exact Nat.le_succ_of_le (top_le _ _)) _))⟩
          case measure => simp [intOf] <;> omega
        · obtain rfl : k = sc.mats.length := by omega
          go_wp2
          go_loopw [7] (fun i wr => ∃ k : Nat, i = .int .i64 (k : Int) ∧ k ≤ sc.texs.length ∧ ∃ x, wr = grow W2 x) (fun i _ => sc.texs.length - (intOf i).toNat)
          case atStart => exact ⟨0, rfl, by omega, grow_of (by repeat (first | with_reducible exact Below.refl _ _ | with_reducible refine bel_then ?_ _ | with_reducible refine bel_grow ?_ _ | with_reducible refine bel_alloc ?_ _ | with_reducible refine bel_drew ?_ | with_reducible refine bel_set ?_ (by simp) _ | with_reducible refine bel_setRow ?_ (by first | omega | (simp; done)) _))⟩
          case round =>
            obtain ⟨k, rfl, hk, xx, rfl⟩ := hrel
            by_cases hlt : k < sc.texs.length
            · obtain ⟨b, off, rfl, hb, hc⟩ := CT (by rw [flat_len fT 4 (fun _ => rfl)]; omega)
              obtain ⟨b2, off2, rfl, hb2, hc2⟩ := DT (by rw [flat_len fT 4 (fun _ => rfl)]; omega)
              have c0 := hc (k * 4 + 0) (by rw [flat_len fT 4 (fun _ => rfl)]; omega)
              have d0 := hc2 (k * 4 + 0) (by rw [flat_len fT 4 (fun _ => rfl)]; omega)
              rw [flat_get fT 4 (fun _ => rfl) ss k (by omega) 0 (by omega), Nat.add_zero] at c0
              rw [flat_get fT 4 (fun _ => rfl) us k (by omega) 0 (by omega), Nat.add_zero] at d0
              have c1 := hc (k * 4 + 1) (by rw [flat_len fT 4 (fun _ => rfl)]; omega)
              have d1 := hc2 (k * 4 + 1) (by rw [flat_len fT 4 (fun _ => rfl)]; omega)
              rw [flat_get fT 4 (fun _ => rfl) ss k (by omega) 1 (by omega), ← Nat.add_assoc] at c1
              rw [flat_get fT 4 (fun _ => rfl) us k (by omega) 1 (by omega), ← Nat.add_assoc] at d1
              have c2 := hc (k * 4 + 2) (by rw [flat_len fT 4 (fun _ => rfl)]; omega)
              have d2 := hc2 (k * 4 + 2) (by rw [flat_len fT 4 (fun _ => rfl)]; omega)
              rw [flat_get fT 4 (fun _ => rfl) ss k (by omega) 2 (by omega), ← Nat.add_assoc] at c2
              rw [flat_get fT 4 (fun _ => rfl) us k (by omega) 2 (by omega), ← Nat.add_assoc] at d2
              have c3 := hc (k * 4 + 3) (by rw [flat_len fT 4 (fun _ => rfl)]; omega)
              have d3 := hc2 (k * 4 + 3) (by rw [flat_len fT 4 (fun _ => rfl)]; omega)
              rw [flat_get fT 4 (fun _ => rfl) ss k (by omega) 3 (by omega), ← Nat.add_assoc] at c3
              rw [flat_get fT 4 (fun _ => rfl) us k (by omega) 3 (by omega), ← Nat.add_assoc] at d3
              simp only [fT, List.getElem?_cons_zero, List.getElem?_cons_succ] at c0 d0 c1 d1 c2 d2 c3 d3
              obtain ⟨B, m, q0, r0, s0⟩ := hss ss[k] (List.getElem_mem (by omega))
              obtain ⟨B2, m2, q1, r1, s1⟩ := hus us[k] (List.getElem_mem (by omega))
              have eqq : (us[k]).1 = (ss[k]).1 := hsu k (by omega) (by omega)
              rw [eqq] at d0 d1 d2 q1 r1 s1
              rw [q0] at c3
              rw [q1] at d3
              generalize ((ss[k]).1.2.drop 2) = rs at *
              generalize (⟨(ss[k]).1.1.toArray⟩ : ByteArray) = t at *
              generalize (ss[k]).1.2.getD 0 0 = p0 at *
              generalize (ss[k]).1.2.getD 1 0 = p1 at *
              have k0 : (0 : Int) ≤ (k : Int) := by omega
              have k1 : (k : Int) < (sc.texs.length : Int) := by omega
              clear hc hc2 q0 q1 eqq
              go_wp2_with (go_at_call 21; refine (sameInts_yes _ B B2 _ m m2 rs rfl (r0.below (by repeat (first | with_reducible exact Below.refl _ _ | with_reducible refine bel_then ?_ _ | with_reducible refine bel_grow ?_ _ | with_reducible refine bel_alloc ?_ _ | with_reducible refine bel_drew ?_ | with_reducible refine bel_set ?_ (by simp) _ | with_reducible refine bel_setRow ?_ (by first | omega | (simp; done) | exact top_le _ _ | exact Nat.le_succ_of_le (top_le _ _)) _))) (r1.below (by repeat (first | with_reducible exact Below.refl _ _ | with_reducible refine bel_then ?_ _ | with_reducible refine bel_grow ?_ _ | with_reducible refine bel_alloc ?_ _ | with_reducible refine bel_drew ?_ | with_reducible refine bel_set ?_ (by simp) _ | with_reducible refine bel_setRow ?_ (by first | omega | (simp; done) | exact top_le _ _ | exact Nat.le_succ_of_le (top_le _ _)) _))) (by omega)).mono ?_; rintro e _ ⟨rfl, xg, rfl⟩)
              go_roundw
              case rel => exact ⟨k + 1, by go_num, by omega, grow_of (by repeat (first | with_reducible exact Below.refl _ _ | with_reducible refine bel_then ?_ _ | with_reducible refine bel_grow ?_ _ | with_reducible refine bel_alloc ?_ _ | with_reducible refine bel_drew ?_ | with_reducible refine bel_set ?_ (by simp) _ | with_reducible refine bel_setRow ?_ (by first | omega | (simp; done) | exact top_le _ _ | exact Nat.le_succ_of_le (top_le _ _)) _))⟩
              case measure => simp [intOf] <;> omega
            · obtain rfl : k = sc.texs.length := by omega
              go_wp2
              go_loopw [10] (fun i wr => ∃ k : Nat, i = .int .i64 (k : Int) ∧ k ≤ sc.cages.length ∧ ∃ x, wr = grow W2 x) (fun i _ => sc.cages.length - (intOf i).toNat)
              case atStart => exact ⟨0, rfl, by omega, grow_of (by repeat (first | with_reducible exact Below.refl _ _ | with_reducible refine bel_then ?_ _ | with_reducible refine bel_grow ?_ _ | with_reducible refine bel_alloc ?_ _ | with_reducible refine bel_drew ?_ | with_reducible refine bel_set ?_ (by simp) _ | with_reducible refine bel_setRow ?_ (by first | omega | (simp; done)) _))⟩
              case round =>
                obtain ⟨k, rfl, hk, xx, rfl⟩ := hrel
                by_cases hlt : k < sc.cages.length
                · obtain ⟨b, off, rfl, hb, hc⟩ := CS (by rw [flat_len fS 6 (fun _ => rfl)]; omega)
                  obtain ⟨b2, off2, rfl, hb2, hc2⟩ := DS (by rw [flat_len fS 6 (fun _ => rfl)]; omega)
                  have c0 := hc (k * 6 + 0) (by rw [flat_len fS 6 (fun _ => rfl)]; omega)
                  have d0 := hc2 (k * 6 + 0) (by rw [flat_len fS 6 (fun _ => rfl)]; omega)
                  rw [flat_get fS 6 (fun _ => rfl) sc.skins k (by omega) 0 (by omega), Nat.add_zero] at c0 d0
                  have c1 := hc (k * 6 + 1) (by rw [flat_len fS 6 (fun _ => rfl)]; omega)
                  have d1 := hc2 (k * 6 + 1) (by rw [flat_len fS 6 (fun _ => rfl)]; omega)
                  rw [flat_get fS 6 (fun _ => rfl) sc.skins k (by omega) 1 (by omega), ← Nat.add_assoc] at c1 d1
                  have c2 := hc (k * 6 + 2) (by rw [flat_len fS 6 (fun _ => rfl)]; omega)
                  have d2 := hc2 (k * 6 + 2) (by rw [flat_len fS 6 (fun _ => rfl)]; omega)
                  rw [flat_get fS 6 (fun _ => rfl) sc.skins k (by omega) 2 (by omega), ← Nat.add_assoc] at c2 d2
                  have c3 := hc (k * 6 + 3) (by rw [flat_len fS 6 (fun _ => rfl)]; omega)
                  have d3 := hc2 (k * 6 + 3) (by rw [flat_len fS 6 (fun _ => rfl)]; omega)
                  rw [flat_get fS 6 (fun _ => rfl) sc.skins k (by omega) 3 (by omega), ← Nat.add_assoc] at c3 d3
                  have c4 := hc (k * 6 + 4) (by rw [flat_len fS 6 (fun _ => rfl)]; omega)
                  have d4 := hc2 (k * 6 + 4) (by rw [flat_len fS 6 (fun _ => rfl)]; omega)
                  rw [flat_get fS 6 (fun _ => rfl) sc.skins k (by omega) 4 (by omega), ← Nat.add_assoc] at c4 d4
                  have c5 := hc (k * 6 + 5) (by rw [flat_len fS 6 (fun _ => rfl)]; omega)
                  have d5 := hc2 (k * 6 + 5) (by rw [flat_len fS 6 (fun _ => rfl)]; omega)
                  rw [flat_get fS 6 (fun _ => rfl) sc.skins k (by omega) 5 (by omega), ← Nat.add_assoc] at c5 d5
                  simp only [fS, List.getElem?_cons_zero, List.getElem?_cons_succ] at c0 d0 c1 d1 c2 d2 c3 d3 c4 d4 c5 d5
                  obtain ⟨bb, ofb, rfl, hbb, hcb⟩ := CK (by rw [flat_len fC 3 (fun _ => rfl)]; omega)
                  obtain ⟨bb2, ofb2, rfl, hbb2, hcb2⟩ := DK (by rw [flat_len fC 3 (fun _ => rfl)]; omega)
                  have g0 := hcb (k * 3 + 0) (by rw [flat_len fC 3 (fun _ => rfl)]; omega)
                  have h0 := hcb2 (k * 3 + 0) (by rw [flat_len fC 3 (fun _ => rfl)]; omega)
                  rw [flat_get fC 3 (fun _ => rfl) cs k (by omega) 0 (by omega), Nat.add_zero] at g0
                  rw [flat_get fC 3 (fun _ => rfl) ds k (by omega) 0 (by omega), Nat.add_zero] at h0
                  have g1 := hcb (k * 3 + 1) (by rw [flat_len fC 3 (fun _ => rfl)]; omega)
                  have h1 := hcb2 (k * 3 + 1) (by rw [flat_len fC 3 (fun _ => rfl)]; omega)
                  rw [flat_get fC 3 (fun _ => rfl) cs k (by omega) 1 (by omega), ← Nat.add_assoc] at g1
                  rw [flat_get fC 3 (fun _ => rfl) ds k (by omega) 1 (by omega), ← Nat.add_assoc] at h1
                  have g2 := hcb (k * 3 + 2) (by rw [flat_len fC 3 (fun _ => rfl)]; omega)
                  have h2 := hcb2 (k * 3 + 2) (by rw [flat_len fC 3 (fun _ => rfl)]; omega)
                  rw [flat_get fC 3 (fun _ => rfl) cs k (by omega) 2 (by omega), ← Nat.add_assoc] at g2
                  rw [flat_get fC 3 (fun _ => rfl) ds k (by omega) 2 (by omega), ← Nat.add_assoc] at h2
                  simp only [fC, List.getElem?_cons_zero, List.getElem?_cons_succ] at g0 g1 g2 h0 h1 h2
                  have r0 := hcs k (by omega) (by omega)
                  have r1 := hds k (by omega) (by omega)
                  have CT2 : ∀ x : More, Calls Tryz.prog 22 #[.agg #[(cs[k]).1, (cs[k]).2.1, (cs[k]).2.2], .agg #[(ds[k]).1, (ds[k]).2.1, (ds[k]).2.2]] (grow W2 x) fun e w'' => e = .returned (.bool true) ∧ ∃ z, w'' = grow (grow W2 x) z := fun x => sameCage_yes _ _ _ _ _ _ _ _ (r0.below (bel_grow (Below.refl _ _) x)) (r1.below (bel_grow (Below.refl _ _) x))
                  clear r0 r1
                  generalize (cs[k]).1 = y0 at *
                  generalize (cs[k]).2.1 = y1 at *
                  generalize (cs[k]).2.2 = y2 at *
                  generalize (ds[k]).1 = z0 at *
                  generalize (ds[k]).2.1 = z1 at *
                  generalize (ds[k]).2.2 = z2 at *
                  generalize (⟨(sc.skins[k]).name.toArray⟩ : ByteArray) = t at *
                  generalize ((sc.skins[k]).mat : Int) = p0 at *
                  generalize (sc.skins[k]).levels = p1 at *
                  generalize (sc.skins[k]).unit = p2 at *
                  generalize (sc.skins[k]).tex = p3 at *
                  generalize (sc.skins[k]).height = p4 at *
                  have e : ∀ w : World, (binOp .neq 55 (.agg #[.string t, .int .i64 p0, .int .i64 p1, .int .i64 p2, .int .i64 p3, .int .i64 p4]) (.agg #[.string t, .int .i64 p0, .int .i64 p1, .int .i64 p2, .int .i64 p3, .int .i64 p4])).run Tryz.prog w = .ok (.bool false) w := by
                    intro w; go_simp
                  have k0 : (0 : Int) ≤ (k : Int) := by omega
                  have k1 : (k : Int) < (sc.cages.length : Int) := by omega
                  have k2 : (k : Int) < (sc.cages.length : Int) := by omega
                  replace CT2 := Lib.hid CT2
                  clear hc hc2 hcb hcb2 hcs hds
                  go_wp2_with fail
                  refine wp_region_grow (by kernel_rfl) (by kernel_rfl) ?_
                  repeat (go_big_quiet_step (((first | exact qq1 (CT2.out _) | exact qq2 (CT2.out _)))))
                  refine wpQuiet_nil ?_
                  rintro _ ⟨xg, rfl⟩
                  go_wp2_with fail
                  go_roundw
                  case rel => exact ⟨k + 1, by go_num, by omega, grow_of (by repeat (first | with_reducible exact Below.refl _ _ | with_reducible refine bel_then ?_ _ | with_reducible refine bel_grow ?_ _ | with_reducible refine bel_alloc ?_ _ | with_reducible refine bel_drew ?_ | with_reducible refine bel_set ?_ (by simp) _ | with_reducible refine bel_setRow ?_ (by first | omega | (simp; done) | exact top_le _ _ | exact Nat.le_succ_of_le (top_le _ _)) _))⟩
                  case measure => simp [intOf] <;> omega
                · obtain rfl : k = sc.cages.length := by omega
                  go_wp2
                  go_ret
                  exact ⟨rfl, grow_of (hW.trans ((bel_grow (Below.refl _ _) xx).mono hW.size))⟩
end Go.Proofs.YtdkgbdecmgligaaGreatDoor
