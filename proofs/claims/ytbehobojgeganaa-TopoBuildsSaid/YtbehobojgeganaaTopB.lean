/- alive of layer 8: a triangle, and two that go along an edge the same way. -/
import Derived.Test.YtbehobojgeganaaTopA
namespace Go.Proofs.Ytbehobojgeganaa
open Go.RowKit
set_option linter.unusedVariables false
set_option linter.unusedSimpArgs false
set_option linter.unnecessarySimpa false
set_option maxRecDepth 100000


def tri : List (List Int) := [[0, 1, 2]]
def tri2 : List (List Int) := [[0, 1, 2], [0, 1, 3]]
theorem tri_ways : waysL 0 tri = [⟨2, 0, 0, 1⟩, ⟨0, 1, 0, 2⟩, ⟨1, 2, 0, 0⟩] := rfl
theorem tri_edges : EdgesR (waysL 0 tri) [⟨0, 1, 0, -1⟩, ⟨0, 2, -1, 0⟩, ⟨1, 2, 0, -1⟩] := by
  rw [tri_ways]
  have e1 : edOf [⟨2, 0, 0, 1⟩, ⟨0, 1, 0, 2⟩, ⟨1, 2, 0, 0⟩] 0 2 = ⟨0, 2, -1, 0⟩ := by simp [edOf, faceOf, look]
  have e2 : edOf [⟨2, 0, 0, 1⟩, ⟨0, 1, 0, 2⟩, ⟨1, 2, 0, 0⟩] 0 1 = ⟨0, 1, 0, -1⟩ := by simp [edOf, faceOf, look]
  have e3 : edOf [⟨2, 0, 0, 1⟩, ⟨0, 1, 0, 2⟩, ⟨1, 2, 0, 0⟩] 1 2 = ⟨1, 2, 0, -1⟩ := by simp [edOf, faceOf, look]
  constructor
  · simp [ltE]
  · intro e
    simp only [List.mem_cons, List.not_mem_nil, or_false, exists_eq_or_imp, exists_eq_left]
    simp only [show min (2 : Int) 0 = 0 from rfl, show max (2 : Int) 0 = 2 from rfl, show min (0 : Int) 1 = 0 from rfl, show max (0 : Int) 1 = 1 from rfl, show min (1 : Int) 2 = 1 from rfl, show max (1 : Int) 2 = 2 from rfl, e1, e2, e3]
    constructor
    · rintro (h | h | h) <;> simp [h]
    · rintro (h | h | h) <;> simp [h]
theorem tri_walk : WalkOk 3 tri where
  long := by simp [Long, tri]
  inr := by rw [tri_ways]; simp [InR]
  apart := by rw [tri_ways]; simp [Apart, apart]
  pos := by omega
  all v h0 h1 := by
    rw [tri_ways]
    have : v = 0 ∨ v = 1 ∨ v = 2 := by omega
    rcases this with rfl | rfl | rfl <;> simp
theorem tri_fan (v b c : Int) (w : Way) (hm : froms (waysL 0 tri) v = [w]) (ha : w.b = b) (hc : w.c ≠ b) : FanR (waysL 0 tri) v b [w] false where
  mem u hu := by rw [← hm] at hu; exact mem_froms.1 hu
  first _ := ha
  link i h := by simp at h
  mid i h := by simp at h
  back h := by cases h
  stop _ := ⟨fun u hu h1 h2 => by
    have : u ∈ froms (waysL 0 tri) v := mem_froms.2 ⟨hu, h1⟩
    rw [hm, List.mem_singleton] at this
    subst this
    simp [ends] at h2
    exact hc (h2.symm.trans ha), .inr (by simp [ends]; exact hc)⟩
theorem tri_surf : Surf 3 tri := ⟨tri_walk, fun v h0 h1 => by
  have : v = 0 ∨ v = 1 ∨ v = 2 := by omega
  rcases this with rfl | rfl | rfl
  · refine ⟨[⟨0, 1, 0, 2⟩], false, tri_fan _ _ 0 _ (by rw [tri_ways]; rfl) ?_ ?_, by rw [tri_ways]; rfl⟩ <;> simp [tri_ways, hubOf, froms, hubStep]
  · refine ⟨[⟨1, 2, 0, 0⟩], false, tri_fan _ _ 0 _ (by rw [tri_ways]; rfl) ?_ ?_, by rw [tri_ways]; rfl⟩ <;> simp [tri_ways, hubOf, froms, hubStep]
  · refine ⟨[⟨2, 0, 0, 1⟩], false, tri_fan _ _ 0 _ (by rw [tri_ways]; rfl) ?_ ?_, by rw [tri_ways]; rfl⟩ <;> simp [tri_ways, hubOf, froms, hubStep]⟩
theorem tri_is (t : TopoT) (h : TopoS 3 tri t) : t.es = [⟨0, 1, 0, -1⟩, ⟨0, 2, -1, 0⟩, ⟨1, 2, 0, -1⟩] ∧ t.fans.length = 3 ∧ ∃ r1 r2, t.rs = [false, r1, r2] := by
  have h1 := h.nf
  have h2 := h.nr
  refine ⟨h.edges.one tri_edges, by omega, ?_⟩
  obtain ⟨L, h3, _, _⟩ := h.fan 0 (by omega) (by omega)
  have h4 : FanR (waysL 0 tri) 0 (hubOf (waysL 0 tri) 0 (waysL 0 tri)).1 [⟨0, 1, 0, 2⟩] false := by
    refine tri_fan _ _ 0 _ (by rw [tri_ways]; rfl) ?_ ?_ <;> simp [tri_ways, hubOf, froms, hubStep]
  have h5 := (FanR.unique tri_walk.apart h3 h4).2
  have h6 : t.rs.length = 3 := by omega
  match hr : t.rs, h6 with
  | [a, b, c], _ =>
    have : t.rs[0]'(by omega) = a := by simp [hr]
    rw [h5] at this
    exact ⟨b, c, by rw [← this]⟩
theorem tri2_not : ¬ Surf 4 tri2 := fun h => by
  have := h.1.apart
  rw [show waysL 0 tri2 = [⟨2, 0, 0, 1⟩, ⟨0, 1, 0, 2⟩, ⟨1, 2, 0, 0⟩, ⟨3, 0, 1, 1⟩, ⟨0, 1, 1, 3⟩, ⟨1, 3, 1, 0⟩] from rfl] at this
  simp [Apart, apart] at this
theorem FL_one {W : World} {b c : Nat} {x y z : Int} {g : Nat} (h1 : W.cell? ⟨g, 0, none⟩ = some (.slice (some ⟨b, 0, none⟩) 3 c)) (hg : g < W.heap.size) (hb : b < W.heap.size) (h2 : W.cell? ⟨b, 0, none⟩ = some (.int .i64 x)) (h3 : W.cell? ⟨b, 1, none⟩ = some (.int .i64 y)) (h4 : W.cell? ⟨b, 2, none⟩ = some (.int .i64 z)) : FL W (some ⟨g, 0, none⟩) [[x, y, z]] := fun _ => by
  refine ⟨g, 0, rfl, hg, fun i hi => ?_⟩
  have : i = 0 := by simpa using hi
  subst this
  refine ⟨some ⟨b, 0, none⟩, c, h1, fun _ => ⟨b, 0, rfl, hb, fun j hj => ?_⟩⟩
  have : j = 0 ∨ j = 1 ∨ j = 2 := by simp at hj; omega
  rcases this with rfl | rfl | rfl
  · exact h2
  · exact h3
  · exact h4
theorem FL_two {W : World} {b c b2 c2 : Nat} {x y z x2 y2 z2 : Int} {g : Nat} (h1 : W.cell? ⟨g, 0, none⟩ = some (.slice (some ⟨b, 0, none⟩) 3 c)) (h1b : W.cell? ⟨g, 1, none⟩ = some (.slice (some ⟨b2, 0, none⟩) 3 c2)) (hg : g < W.heap.size) (hb : b < W.heap.size) (hb2 : b2 < W.heap.size) (h2 : W.cell? ⟨b, 0, none⟩ = some (.int .i64 x)) (h3 : W.cell? ⟨b, 1, none⟩ = some (.int .i64 y)) (h4 : W.cell? ⟨b, 2, none⟩ = some (.int .i64 z))
    (k2 : W.cell? ⟨b2, 0, none⟩ = some (.int .i64 x2)) (k3 : W.cell? ⟨b2, 1, none⟩ = some (.int .i64 y2)) (k4 : W.cell? ⟨b2, 2, none⟩ = some (.int .i64 z2)) : FL W (some ⟨g, 0, none⟩) [[x, y, z], [x2, y2, z2]] := fun _ => by
  refine ⟨g, 0, rfl, hg, fun i hi => ?_⟩
  have : i = 0 ∨ i = 1 := by simp at hi; omega
  rcases this with rfl | rfl
  · refine ⟨some ⟨b, 0, none⟩, c, h1, fun _ => ⟨b, 0, rfl, hb, fun j hj => ?_⟩⟩
    have : j = 0 ∨ j = 1 ∨ j = 2 := by simp at hj; omega
    rcases this with rfl | rfl | rfl
    · exact h2
    · exact h3
    · exact h4
  · refine ⟨some ⟨b2, 0, none⟩, c2, h1b, fun _ => ⟨b2, 0, rfl, hb2, fun j hj => ?_⟩⟩
    have : j = 0 ∨ j = 1 ∨ j = 2 := by simp at hj; omega
    rcases this with rfl | rfl | rfl
    · exact k2
    · exact k3
    · exact k4


set_option maxHeartbeats 4000000 in
theorem alive8_any (W : World) : Calls Try.prog 14 #[] W fun e W' => e = .returned (.bool true) ∧ Below W.heap.size W W' := by
  have cB := fun (W1 : World) (A : Option Addr) (h : FL W1 A tri) => (show Calls Try.prog 17 #[.int .i64 3, .slice A 1 1] W1 _ from build_any W1 3 1 tri A h (by unfold i64B; omega) (by simp [tri, i64B]) (by simp [tri_ways]) (by simp [tri]) (by simp [tri]) (by omega))
  have cB2 := fun (W1 : World) (A : Option Addr) (h : FL W1 A tri2) => (show Calls Try.prog 17 #[.int .i64 4, .slice A 2 2] W1 _ from build_any W1 4 2 tri2 A h (by unfold i64B; omega) (by simp [tri2, i64B]) (by simp [waysL_len, tot, tri2]) (by simp [tri2]) (by simp [tri2]) (by omega))
  replace cB := Lib.hid cB
  replace cB2 := Lib.hid cB2
  go_enter Try.func14, Try.ntmps14
  go_upto_region 1 with (fail)
  have hA1 : FL ((W.alloc (.cells #[.int .i64 0, .int .i64 1, .int .i64 2] 3)).alloc (.cells #[.slice (some ⟨W.heap.size, 0, none⟩) 3 3] 41)) (some ⟨W.heap.size + 1, 0, none⟩) tri := by
    have b1 : Blk (W.alloc (.cells #[.int .i64 0, .int .i64 1, .int .i64 2] 3)) W.heap.size 3 #[.int .i64 0, .int .i64 1, .int .i64 2] := Blk.new _ _ _ _ rfl
    have b2 : Blk ((W.alloc (.cells #[.int .i64 0, .int .i64 1, .int .i64 2] 3)).alloc (.cells #[.slice (some ⟨W.heap.size, 0, none⟩) 3 3] 41)) (W.heap.size + 1) 41 #[.slice (some ⟨W.heap.size, 0, none⟩) 3 3] := Blk.new _ _ _ _ (by simp)
    have b3 := b1.alloc (.cells #[.slice (some ⟨W.heap.size, 0, none⟩) 3 3] 41)
    exact FL_one (b2.cell 0) b2.lt b3.lt (b3.cell 0) (b3.cell 1) (b3.cell 2)
  have cA := (cB.out _ _ hA1)
  clear hA1 cB
  go_upto_region 2 with (first | (go_at_call 17; (with_reducible refine cA.mono ?_); rintro e W1 ⟨hb1, hcase⟩; obtain ⟨_, t, A1, A2, A3, c1, c2, c3, hS, hV, rfl⟩ := hcase.resolve_left (fun h => h.1 tri_surf); obtain ⟨e1, e2, r1, r2, e3⟩ := tri_is t hS; replace hV := Lib.hid hV; clear hcase hS; rw [e1, e2, e3]) | fail)
  have hb0 : Below W.heap.size W ((W.alloc (.cells #[.int .i64 0, .int .i64 1, .int .i64 2] 3)).alloc (.cells #[.slice (some ⟨W.heap.size, 0, none⟩) 3 3] 41)) := bel_alloc (bel_alloc (Below.refl _ _) _) _
  have hb2 := bel_trans hb0 hb1
  clear hb0 hb1 cA
  have hV2 := TopoV.below hV.out (bel_alloc (Below.refl _ _) (.cells #[.slice A1 3 c1, .slice A2 3 c2, .slice A3 3 c3] 29))
  have hb3 := bel_alloc hb2 (.cells #[.slice A1 3 c1, .slice A2 3 c2, .slice A3 3 c3] 29)
  have hT : Blk (W1.alloc (.cells #[.slice A1 3 c1, .slice A2 3 c2, .slice A3 3 c3] 29)) W1.heap.size 29 #[.slice A1 3 c1, .slice A2 3 c2, .slice A3 3 c3] := Blk.new _ _ _ _ rfl
  generalize W1.alloc (.cells #[.slice A1 3 c1, .slice A2 3 c2, .slice A3 3 c3] 29) = W2 at *
  generalize W1.heap.size = T at *
  have hX : (.cells #[.slice (some ⟨W2.heap.size, 0, none⟩) 3 3, .slice (some ⟨W2.heap.size + 1, 0, none⟩) 3 3] 41 : Obj) = .cells #[.slice (some ⟨W2.heap.size, 0, none⟩) 3 3, .slice (some ⟨W2.heap.size + 1, 0, none⟩) 3 3] 41 := rfl
  have hA2 : FL (((W2.alloc (.cells #[.int .i64 0, .int .i64 1, .int .i64 2] 3)).alloc (.cells #[.int .i64 0, .int .i64 1, .int .i64 3] 3)).alloc (.cells #[.slice (some ⟨W2.heap.size, 0, none⟩) 3 3, .slice (some ⟨W2.heap.size + 1, 0, none⟩) 3 3] 41)) (some ⟨W2.heap.size + 1 + 1, 0, none⟩) tri2 := by
    have b1 : Blk (W2.alloc (.cells #[.int .i64 0, .int .i64 1, .int .i64 2] 3)) W2.heap.size 3 #[.int .i64 0, .int .i64 1, .int .i64 2] := Blk.new _ _ _ _ rfl
    have b2 : Blk ((W2.alloc (.cells #[.int .i64 0, .int .i64 1, .int .i64 2] 3)).alloc (.cells #[.int .i64 0, .int .i64 1, .int .i64 3] 3)) (W2.heap.size + 1) 3 #[.int .i64 0, .int .i64 1, .int .i64 3] := Blk.new _ _ _ _ (by simp)
    have b3 : Blk (((W2.alloc (.cells #[.int .i64 0, .int .i64 1, .int .i64 2] 3)).alloc (.cells #[.int .i64 0, .int .i64 1, .int .i64 3] 3)).alloc (.cells #[.slice (some ⟨W2.heap.size, 0, none⟩) 3 3, .slice (some ⟨W2.heap.size + 1, 0, none⟩) 3 3] 41)) (W2.heap.size + 1 + 1) 41 #[.slice (some ⟨W2.heap.size, 0, none⟩) 3 3, .slice (some ⟨W2.heap.size + 1, 0, none⟩) 3 3] := Blk.new _ _ _ _ (by simp)
    have b4 := (b1.alloc (.cells #[.int .i64 0, .int .i64 1, .int .i64 3] 3)).alloc (.cells #[.slice (some ⟨W2.heap.size, 0, none⟩) 3 3, .slice (some ⟨W2.heap.size + 1, 0, none⟩) 3 3] 41)
    have b5 := b2.alloc (.cells #[.slice (some ⟨W2.heap.size, 0, none⟩) 3 3, .slice (some ⟨W2.heap.size + 1, 0, none⟩) 3 3] 41)
    exact FL_two (b3.cell 0) (b3.cell 1) b3.lt b4.lt b5.lt (b4.cell 0) (b4.cell 1) (b4.cell 2) (b5.cell 0) (b5.cell 1) (b5.cell 2)
  have cA := (cB2.out _ _ hA2)
  have hb4 : Below W2.heap.size W2 (((W2.alloc (.cells #[.int .i64 0, .int .i64 1, .int .i64 2] 3)).alloc (.cells #[.int .i64 0, .int .i64 1, .int .i64 3] 3)).alloc (.cells #[.slice (some ⟨W2.heap.size, 0, none⟩) 3 3, .slice (some ⟨W2.heap.size + 1, 0, none⟩) 3 3] 41)) := bel_alloc (bel_alloc (bel_alloc (Below.refl _ _) _) _) _
  clear hA2 cB2 hX
  go_upto_region 3 with (first | (go_at_call 17; (with_reducible refine cA.mono ?_); rintro e W5 ⟨hb5, hcase⟩; obtain ⟨_, rfl⟩ := hcase.resolve_right (fun h => tri2_not h.1)) | fail)
  have hb45 := bel_trans hb4 hb5
  have hb6 := bel_alloc hb45 (.cells #[.slice none 0 0, .slice none 0 0, .slice none 0 0] 29)
  have hb7 := bel_trans hb3 hb6
  have hT7 := hT.below hb6
  have hV7 := hV2.below hb6
  have hN7 : Blk (W5.alloc (.cells #[.slice none 0 0, .slice none 0 0, .slice none 0 0] 29)) W5.heap.size 29 #[.slice none 0 0, .slice none 0 0, .slice none 0 0] := Blk.new _ _ _ _ rfl
  clear hT hV2 hb3 hb4 hb5 hb45 hb6 cA hV
  generalize W5.alloc (.cells #[.slice none 0 0, .slice none 0 0, .slice none 0 0] 29) = W7 at *
  generalize W5.heap.size = T5 at *
  have t0 : W7.cell? ⟨T, 0, none⟩ = some (.slice A1 3 c1) := hT7.cell 0
  have t1 : W7.cell? ⟨T, 1, none⟩ = some (.slice A2 3 c2) := hT7.cell 1
  have t2 : W7.cell? ⟨T, 2, none⟩ = some (.slice A3 3 c3) := hT7.cell 2
  have tl := hT7.lt
  have hE := hV7.es
  have hR := hV7.rs
  rw [e1] at hE
  rw [e3] at hR
  obtain ⟨b, off, rfl, hbl, hc⟩ := hE (by simp)
  obtain ⟨g1, g2, g3, g4⟩ := hc 1 (by simp)
  obtain ⟨b2, off2, rfl, hbl2, hc2⟩ := hR (by simp)
  have g5 := hc2 0 (by simp)
  simp only [List.getElem_cons_succ, List.getElem_cons_zero, Nat.one_mul, Nat.add_zero] at g1 g2 g3 g4 g5
  clear hE hR hc hc2 hV7 hT7 hN7
  go_wp2
  go_ret
  exact ⟨rfl, hb7⟩
end Go.Proofs.Ytbehobojgeganaa