/- The text that the program's writer makes is the scene's text; what a good scene's numbers keep (math). -/
import Derived.Test.YtdkgbdecmgligaaGreatDoorMPrtC
import Derived.Test.YtdkgbdecmgligaaGreatDoorMPrtM
import Derived.Lib.FrozenHead
namespace Go.Proofs.YtdkgbdecmgligaaGreatDoor
open Go.RowKit
set_option linter.unusedVariables false
set_option linter.unusedSimpArgs false
set_option linter.unnecessarySimpa false
def skT (mats texs : List (Wd × List Int)) (k : SkinM) : List UInt8 := kCage ++ jn [k.name, (mats.getD k.mat ([], [])).1, shW k.levels, shW k.unit, if 0 ≤ k.tex then (texs.getD k.tex.toNat ([], [])).1 else kNo, shW k.height] ++ [10]
def cagesT (mats texs : List (Wd × List Int)) (ps : List (SkinM × CageM)) : List UInt8 := ps.flatMap fun p => skT mats texs p.1 ++ cageT p.2
theorem cagesT_take (mats texs : List (Wd × List Int)) {ps : List (SkinM × CageM)} {j : Nat} (h : j < ps.length) : cagesT mats texs (ps.take (j + 1)) = cagesT mats texs (ps.take j) ++ (skT mats texs ps[j].1 ++ cageT ps[j].2) := by
  rw [List.take_succ_eq_append_getElem h]
  unfold cagesT
  rw [List.flatMap_append, List.flatMap_cons, List.flatMap_nil, List.append_nil]
def allT (sc : Scn) (n sk : List Int) : List UInt8 := (kCamera ++ jn (n.map shW) ++ [10]) ++ ((kSky ++ jn (sk.map shW) ++ [10]) ++ (tx kLight sc.lights ++ (txN kTexture sc.texs ++ (txN kMaterial sc.mats ++ cagesT sc.mats sc.texs (sc.skins.zip sc.cages)))))
theorem txt_map {α : Type} (f : α → List Wd) (l : List α) : txtOf ((l.map f).map lineT) = l.flatMap fun x => lineT (f x) ++ [10] := by
  unfold txtOf
  rw [List.map_map, List.flatMap_map]
  rfl
theorem txt_flat {α : Type} (f : α → List (List Wd)) (l : List α) : txtOf ((l.flatMap f).map lineT) = l.flatMap fun x => txtOf ((f x).map lineT) := by
  unfold txtOf
  rw [List.map_flatMap, List.flatMap_assoc]
theorem cage_txt (c : CageM) : txtOf ((cageL c).map lineT) = cageT c := by
  unfold cageL cageT
  rw [List.map_append, List.map_append, txtOf_app, txtOf_app, txt_map, txt_map, txt_map]
  rfl
theorem allT_show (sc : Scn) (n sk : List Int) : allT sc n sk = showT sc n sk := by
  have e1 : ∀ (a : List UInt8) (L : List (List UInt8)), txtOf (a :: L) = (a ++ [10]) ++ txtOf L := fun a L => rfl
  unfold allT showT allL
  rw [List.map_cons, List.map_cons, List.map_append, List.map_append, List.map_append, e1, e1, txtOf_app, txtOf_app, txtOf_app, txt_map, txt_map, txt_map, txt_flat]
  congr 1
  congr 1
  congr 1
  congr 1
  congr 1
  unfold cagesT
  congr 1
  funext p
  rw [List.map_cons, e1, cage_txt]
  rfl
theorem i64_of {ns : List Int} (h : ∀ x ∈ ns, -99999 ≤ x ∧ x ≤ 99999) : i64L ns := fun x hx => by have := h x hx; omega
end Go.Proofs.YtdkgbdecmgligaaGreatDoor

/- The program's writer: the camera's line. -/
namespace Go.Proofs.YtdkgbdecmgligaaGreatDoor
open Go.RowKit
set_option linter.unusedVariables false
set_option linter.unusedSimpArgs false
set_option linter.unnecessarySimpa false
theorem rng3 {W : World} {b o : Nat} {x y z : Value} (h0 : W.cell? ⟨b, o, none⟩ = some x) (h1 : W.cell? ⟨b, o + 1, none⟩ = some y) (h2 : W.cell? ⟨b, o + 2, none⟩ = some z) : W.rangeAt b o [x, y, z] := fun j v hv => by
  match j, hv with
  | 0, hv => simp at hv; subst hv; exact h0
  | 1, hv => simp at hv; subst hv; exact h1
  | 2, hv => simp at hv; subst hv; exact h2
  | j + 3, hv => simp at hv
set_option maxRecDepth 100000 in
set_option maxHeartbeats 4000000 in
theorem camera_w {base g : Nat} {W : World} {st : Option (List UInt8)} (a0 a1 a2 a3 a4 a5 a6 a7 a8 a9 a10 a11 a12 a13 a14 a15 : Int) (hns : i64L [a0, a1, a2, a3, a4, a5, a6, a7, a8, a9, a10, a11, a12, a13, a14, a15]) (hI : ItoaOk base W) (h : WX base g W st) :
    Calls Tryz.prog 25 #[.pointer (some ⟨g, 0, none⟩), .agg #[.int .i64 a0, .int .i64 a1, .int .i64 a2, .int .i64 a3, .int .i64 a4, .int .i64 a5, .int .i64 a6, .int .i64 a7, .int .i64 a8, .int .i64 a9, .int .i64 a10, .int .i64 a11, .int .i64 a12, .int .i64 a13, .int .i64 a14, .int .i64 a15]] W fun e W' => e = .returned (.tuple #[]) ∧ WX base g W' (addT st (kCamera ++ jn ([a0, a1, a2, a3, a4, a5, a6, a7, a8, a9, a10, a11, a12, a13, a14, a15].map shW) ++ [10])) ∧ FrB base W W' := by
  have hbs := h.bs
  go_enter Tryz.func25, Tryz.ntmps25
  go_upto_region 1 with fail
  refine wp_letP (fun V1 hVe => ?_)
  have hBV : Below W.heap.size W V1 := by rw [hVe]; exact bel_alloc (Below.refl _ _) _
  have K1 : Blk V1 W.heap.size 25 #[.int .i64 a0, .int .i64 a1, .int .i64 a2, .int .i64 a3, .int .i64 a4, .int .i64 a5, .int .i64 a6, .int .i64 a7, .int .i64 a8, .int .i64 a9, .int .i64 a10, .int .i64 a11, .int .i64 a12, .int .i64 a13, .int .i64 a14, .int .i64 a15] := by rw [hVe]; exact Blk.new _ _ _ _ rfl
  clear hVe
  have hF1 := FrB.of hbs hBV
  have hX1 := h.below hBV
  have hI1 := hI.frb hF1
  clear h hI
  obtain ⟨q, hq⟩ : ∃ q, q = W.heap.size := ⟨_, rfl⟩
  rw [← hq] at K1
  rw [← hq]
  clear hq
  replace hF1 := Lib.hid hF1
  have C1 := Lib.hid (put_any (⟨#[99, 97, 109, 101, 114, 97]⟩ : ByteArray) (by decide) hX1)
  go_upto_region 2 with (go_at_call 58; (with_reducible refine Calls.mono C1.out ?_); rintro e V2 ⟨rfl, hX2, hF2⟩)
  replace hF2 := Lib.hid hF2
  clear C1
  have K2 := hF2.out.blk K1 (by decide) (by decide)
  have hI2 := hI1.frb hF2.out
  have r0 : V2.rangeAt q 0 [.int .i64 a0, .int .i64 a1, .int .i64 a2] := rng3 (K2.cell 0) (K2.cell 1) (K2.cell 2)
  have r1 : V2.rangeAt q 3 [.int .i64 a3, .int .i64 a4, .int .i64 a5] := rng3 (K2.cell 3) (K2.cell 4) (K2.cell 5)
  have r2 : V2.rangeAt q 6 [.int .i64 a6, .int .i64 a7, .int .i64 a8] := rng3 (K2.cell 6) (K2.cell 7) (K2.cell 8)
  have r3 : V2.rangeAt q 9 [.int .i64 a9, .int .i64 a10, .int .i64 a11] := rng3 (K2.cell 9) (K2.cell 10) (K2.cell 11)
  have hql := K2.lt
  replace hX2 : Hid (WX base g V2 (addT st kCamera)) := Lib.hid hX2
  go_upto_region 3 with (first | (refine wpList_load_mid rfl 23 _ rfl q 0 rfl [.int .i64 a0, .int .i64 a1, .int .i64 a2] _ r0 Tryz.underlying23 rfl infoV3 ?_) | (refine wpList_load_mid rfl 23 _ rfl q 3 rfl [.int .i64 a3, .int .i64 a4, .int .i64 a5] _ r1 Tryz.underlying23 rfl infoV3 ?_) | (refine wpList_load_mid rfl 23 _ rfl q 6 rfl [.int .i64 a6, .int .i64 a7, .int .i64 a8] _ r2 Tryz.underlying23 rfl infoV3 ?_) | (refine wpList_load_mid rfl 23 _ rfl q 9 rfl [.int .i64 a9, .int .i64 a10, .int .i64 a11] _ r3 Tryz.underlying23 rfl infoV3 ?_))
  refine wp_letP (fun V3 hVe => ?_)
  have hBV : Below V2.heap.size V2 V3 := by rw [hVe]; exact bel_alloc (Below.refl _ _) _
  have hK : Blk V3 V2.heap.size 23 #[.int .i64 a0, .int .i64 a1, .int .i64 a2, .int .i64 a3, .int .i64 a4, .int .i64 a5, .int .i64 a6, .int .i64 a7, .int .i64 a8, .int .i64 a9, .int .i64 a10, .int .i64 a11] := by rw [hVe]; exact Blk.new _ _ _ _ rfl
  clear hVe r0 r1 r2 r3
  have hF3 := FrB.of hX2.out.bs hBV
  have K3 := hF3.blk K2 (by decide) (by decide)
  have hI3 := hI2.frb hF3
  have hX3 := hX2.out.below hBV
  obtain ⟨p, hp⟩ : ∃ p, p = V2.heap.size := ⟨_, rfl⟩
  rw [← hp] at hK
  rw [← hp]
  clear hp hql
  replace hF3 := Lib.hid hF3
  go_loopw [18] (fun i wr => ∃ (j : Nat), i = .int .i64 (j : Int) ∧ j ≤ 4 ∧ Hid (WX base g wr (addT (addT st kCamera) (jn (([a0, a1, a2, a3, a4, a5, a6, a7, a8, a9, a10, a11].take (3 * j)).map shW)))) ∧ Hid (FrB base V3 wr)) (fun i _ => 4 - (intOf i).toNat)
  case atStart => exact ⟨0, rfl, by omega, Lib.hid (by rw [show addT (addT st kCamera) (jn (([a0, a1, a2, a3, a4, a5, a6, a7, a8, a9, a10, a11].take (3 * 0)).map shW)) = addT st kCamera from hX3.nil]; exact hX3), Lib.hid (FrB.refl _ _)⟩
  case round =>
    obtain ⟨j, rfl, hj, hX, hF⟩ := hrel
    by_cases hlt : j < 4
    · have k0 : (0 : Int) ≤ (j : Int) := by omega
      have k1 : (j : Int) < 4 := by omega
      obtain ⟨x, y, z, rng, h64, hE⟩ : ∃ x y z, wr.rangeAt p (j * 3) [.int .i64 x, .int .i64 y, .int .i64 z] ∧ i64L [x, y, z] ∧ [a0, a1, a2, a3, a4, a5, a6, a7, a8, a9, a10, a11].take (3 * (j + 1)) = [a0, a1, a2, a3, a4, a5, a6, a7, a8, a9, a10, a11].take (3 * j) ++ [x, y, z] := by
        replace hK := hF.out.blk hK (by decide) (by decide)
        rcases (by omega : j = 0 ∨ j = 1 ∨ j = 2 ∨ j = 3) with rfl | rfl | rfl | rfl
        · exact ⟨a0, a1, a2, rng3 (hK.cell 0) (hK.cell 1) (hK.cell 2), fun x hx => hns x (by simp at hx ⊢; rcases hx with rfl | rfl | rfl <;> simp), rfl⟩
        · exact ⟨a3, a4, a5, rng3 (hK.cell 3) (hK.cell 4) (hK.cell 5), fun x hx => hns x (by simp at hx ⊢; rcases hx with rfl | rfl | rfl <;> simp), rfl⟩
        · exact ⟨a6, a7, a8, rng3 (hK.cell 6) (hK.cell 7) (hK.cell 8), fun x hx => hns x (by simp at hx ⊢; rcases hx with rfl | rfl | rfl <;> simp), rfl⟩
        · exact ⟨a9, a10, a11, rng3 (hK.cell 9) (hK.cell 10) (hK.cell 11), fun x hx => hns x (by simp at hx ⊢; rcases hx with rfl | rfl | rfl <;> simp), rfl⟩
      have hpl : p < wr.heap.size := (hF.out.blk hK (by decide) (by decide)).lt
      replace rng := Lib.hid rng
      go_upto_region 5 with (refine wpList_load_mid rfl 23 _ rfl p (j * 3) rfl [.int .i64 x, .int .i64 y, .int .i64 z] _ rng.out Tryz.underlying23 rfl infoV3 ?_)
      refine wp_letP (fun V4 hVe => ?_)
      have hB4 : Below wr.heap.size wr V4 := by rw [hVe]; exact bel_alloc (Below.refl _ _) _
      have K4 : Blk V4 wr.heap.size 23 #[.int .i64 x, .int .i64 y, .int .i64 z] := by rw [hVe]; exact Blk.new _ _ _ _ rfl
      clear hVe
      have hF4 := FrB.of hX.out.bs hB4
      have hX4 := hX.out.below hB4
      have hI4 := (hI3.frb hF.out).frb hF4
      replace hF4 := Lib.hid (hF.out.trans hF4)
      obtain ⟨t, ht⟩ : ∃ t, t = wr.heap.size := ⟨_, rfl⟩
      rw [← ht] at K4
      rw [← ht]
      clear ht
      have d0 : V4.cell? ⟨t, 0, none⟩ = some (.int .i64 x) := K4.cell 0
      have d1 : V4.cell? ⟨t, 1, none⟩ = some (.int .i64 y) := K4.cell 1
      have d2 : V4.cell? ⟨t, 2, none⟩ = some (.int .i64 z) := K4.cell 2
      have htl := K4.lt
      have hB5 : Below V4.heap.size V4 (V4.alloc (.cells #[.int .i64 x, .int .i64 y, .int .i64 z] 3)) := bel_alloc (Below.refl _ _) _
      have hG5 := FrB.of hX4.bs hB5
      have C1 := Lib.hid (numbers_w (c := 3) (n := 3) (A := some ⟨V4.heap.size, 0, none⟩) [x, y, z] rfl h64 (by decide) (hI4.frb hG5) (nfb_of (Blk.new V4 3 #[.int .i64 x, .int .i64 y, .int .i64 z] _ rfl) (fun i hi => by rcases (by simp at hi; omega : i = 0 ∨ i = 1 ∨ i = 2) with rfl | rfl | rfl <;> rfl)) (hX4.below hB5))
      replace hG5 := Lib.hid hG5
      go_wp2_with (go_at_call 59; (with_reducible refine Calls.mono C1.out ?_); rintro e V5 ⟨rfl, hX5, hF5⟩)
      go_roundw
      case rel => exact ⟨j + 1, by go_num, by omega, Lib.hid (by rw [hE, List.map_append, jn_app, ← addT_assoc]; exact hX5), Lib.hid (hF4.out.trans (hG5.out.trans hF5))⟩
      case measure => simp [intOf] <;> omega
    · obtain rfl : j = 4 := by omega
      have K6 := hF.out.blk K3 (by decide) (by decide)
      have hI6 := hI3.frb hF.out
      have d0 : wr.cell? ⟨q, 12, none⟩ = some (.int .i64 a12) := K6.cell 12
      have d1 : wr.cell? ⟨q, 13, none⟩ = some (.int .i64 a13) := K6.cell 13
      have d2 : wr.cell? ⟨q, 14, none⟩ = some (.int .i64 a14) := K6.cell 14
      have d3 : wr.cell? ⟨q, 15, none⟩ = some (.int .i64 a15) := K6.cell 15
      have hql := K6.lt
      have hB7 : Below wr.heap.size wr (wr.alloc (.cells #[.int .i64 a12, .int .i64 a13, .int .i64 a14, .int .i64 a15] 3)) := bel_alloc (Below.refl _ _) _
      have hG7 := FrB.of hX.out.bs hB7
      have C1 := Lib.hid (numbers_w (c := 4) (n := 4) (A := some ⟨wr.heap.size, 0, none⟩) [a12, a13, a14, a15] rfl (fun x hx => hns x (by simp at hx ⊢; rcases hx with rfl | rfl | rfl | rfl <;> simp)) (by decide) (hI6.frb hG7) (nfb_of (Blk.new wr 3 #[.int .i64 a12, .int .i64 a13, .int .i64 a14, .int .i64 a15] _ rfl) (fun i hi => by rcases (by simp at hi; omega : i = 0 ∨ i = 1 ∨ i = 2 ∨ i = 3) with rfl | rfl | rfl | rfl <;> rfl)) (hX.out.below hB7))
      replace hG7 := Lib.hid hG7
      go_upto_region 8 with (go_at_call 59; (with_reducible refine Calls.mono C1.out ?_); rintro e V8 ⟨rfl, hX8, hF8⟩)
      replace hF8 := Lib.hid (hG7.out.trans hF8)
      clear C1 d0 d1 d2 d3 hql hB7
      have C1 := Lib.hid (put_any (⟨#[10]⟩ : ByteArray) (by decide) hX8)
      go_wp2_with (go_at_call 58; (with_reducible refine Calls.mono C1.out ?_); rintro e V9 ⟨rfl, hX9, hF9⟩)
      go_end0
      have e : addT (addT (addT (addT st kCamera) (jn (([a0, a1, a2, a3, a4, a5, a6, a7, a8, a9, a10, a11].take (3 * 4)).map shW))) (jn ([a12, a13, a14, a15].map shW))) [10] = addT st (kCamera ++ jn ([a0, a1, a2, a3, a4, a5, a6, a7, a8, a9, a10, a11, a12, a13, a14, a15].map shW) ++ [10]) := by
        rw [addT_assoc]; rw [addT_assoc]; rw [addT_assoc]
        congr 1
        unfold jn; simp
      rw [← e]
      exact ⟨rfl, hX9, hF1.out.trans (hF2.out.trans (hF3.out.trans (hF.out.trans (hF8.out.trans hF9))))⟩
end Go.Proofs.YtdkgbdecmgligaaGreatDoor

/- A scene's content as any scene may have it, where it lies, and what the program's writer makes of it. -/
namespace Go.Proofs.YtdkgbdecmgligaaGreatDoor
open Go.RowKit
set_option linter.unusedVariables false
set_option linter.unusedSimpArgs false
set_option linter.unnecessarySimpa false
structure GS where
  cam : List Int
  sky : List Int
  lights : List (List Int)
  mats : List (Wd × List Int)
  texs : List (Wd × List Int)
  skins : List (Wd × List Int)
  cages : List CageM
/-- A skin's cells: name, and material, levels, unit, texture, height. -/
def sRow (q : Wd × List Int) : List Value := [.string ⟨q.1.toArray⟩, .int .i64 (q.2.getD 0 0), .int .i64 (q.2.getD 1 0), .int .i64 (q.2.getD 2 0), .int .i64 (q.2.getD 3 0), .int .i64 (q.2.getD 4 0)]
structure WfG (gs : GS) : Prop where
  lc : gs.cam.length = 16
  ic : i64L gs.cam
  ls : gs.sky.length = 3
  is : i64L gs.sky
  nl : gs.lights.length ≤ 1048576
  pl : ∀ q ∈ gs.lights, q.length = 6 ∧ i64L q
  nm : gs.mats.length ≤ 1048576
  pm : ∀ q ∈ gs.mats, q.1.length ≤ 1000000 ∧ q.2.length = 8 ∧ i64L q.2
  nt : gs.texs.length ≤ 1048576
  pt : ∀ q ∈ gs.texs, q.1.length ≤ 1000000 ∧ 2 ≤ q.2.length ∧ q.2.length ≤ 1048576 ∧ i64L q.2
  ns : gs.skins.length ≤ 1048576
  ps : ∀ q ∈ gs.skins, q.1.length ≤ 1000000 ∧ q.2.length = 5 ∧ i64L q.2
  nc : gs.cages.length ≤ 1048576
/-- Cages, and their rows. -/
def CRB (base : Nat) (W : World) (A : Option Addr) (cs : List CageM) : Prop := 0 < cs.length → ∃ b off, A = some ⟨b, off, none⟩ ∧ Kp base W b ∧ ∀ i (h : i < cs.length), ∃ A1 A2 A3 c1 c2 c3, (W.cell? ⟨b, off + i * 3, none⟩ = some (.slice A1 cs[i].verts.length c1) ∧ W.cell? ⟨b, off + i * 3 + 1, none⟩ = some (.slice A2 cs[i].faces.length c2) ∧ W.cell? ⟨b, off + i * 3 + 2, none⟩ = some (.slice A3 cs[i].creases.length c3)) ∧ CB base W A1 A2 A3 cs[i]
theorem CRB.frb {base : Nat} {W W1 : World} {A : Option Addr} {cs : List CageM} (h : CRB base W A cs) (hf : FrB base W W1) : CRB base W1 A cs := fun h0 => by
  obtain ⟨b, off, e, hb, hc⟩ := h h0
  refine ⟨b, off, e, hb.frb hf, fun i hi => ?_⟩
  obtain ⟨A1, A2, A3, c1, c2, c3, ⟨h1, h2, h3⟩, h4⟩ := hc i hi
  exact ⟨A1, A2, A3, c1, c2, c3, ⟨(hb.cell hf _).trans h1, (hb.cell hf _).trans h2, (hb.cell hf _).trans h3⟩, h4.frb hf⟩
structure SB (base : Nat) (W : World) (gs : GS) (aL aM aT aS aC : Option Addr) : Prop where
  rl : RB base 6 W aL (gs.lights.map lRow)
  rm : RB base 9 W aM (gs.mats.map mRow)
  rt : TRB base W aT gs.texs
  rs : RB base 6 W aS (gs.skins.map sRow)
  rc : CRB base W aC gs.cages
theorem SB.frb {base : Nat} {W W1 : World} {gs : GS} {aL aM aT aS aC : Option Addr} (h : SB base W gs aL aM aT aS aC) (hf : FrB base W W1) : SB base W1 gs aL aM aT aS aC :=
  ⟨h.rl.frb hf, h.rm.frb hf, h.rt.frb hf, h.rs.frb hf, h.rc.frb hf⟩
/-- The line of a cage's own. -/
def skG (mats texs : List (Wd × List Int)) (q : Wd × List Int) : List UInt8 := kCage ++ jn [q.1, (mats.getD (q.2.getD 0 0).toNat ([], [])).1, shW (q.2.getD 1 0), shW (q.2.getD 2 0), if 0 ≤ q.2.getD 3 0 then (texs.getD (q.2.getD 3 0).toNat ([], [])).1 else kNo, shW (q.2.getD 4 0)] ++ [10]
def cagesG (mats texs : List (Wd × List Int)) (ps : List ((Wd × List Int) × CageM)) : List UInt8 := ps.flatMap fun p => skG mats texs p.1 ++ cageT p.2
theorem cagesG_take (mats texs : List (Wd × List Int)) {ps : List ((Wd × List Int) × CageM)} {j : Nat} (h : j < ps.length) : cagesG mats texs (ps.take (j + 1)) = cagesG mats texs (ps.take j) ++ (skG mats texs ps[j].1 ++ cageT ps[j].2) := by
  rw [List.take_succ_eq_append_getElem h]
  unfold cagesG
  rw [List.flatMap_append, List.flatMap_cons, List.flatMap_nil, List.append_nil]
def headG (gs : GS) : List UInt8 := (kCamera ++ jn (gs.cam.map shW) ++ [10]) ++ ((kSky ++ jn (gs.sky.map shW) ++ [10]) ++ (tx kLight gs.lights ++ (txN kTexture gs.texs ++ txN kMaterial gs.mats)))
def textG (gs : GS) : List UInt8 := headG gs ++ cagesG gs.mats gs.texs (gs.skins.zip gs.cages)
/-- Each cage has a skin, and each place of a skin's is one there is. -/
def placedG (gs : GS) : Prop := gs.cages.length = gs.skins.length ∧ ∀ q ∈ gs.skins, (0 ≤ q.2.getD 0 0 ∧ q.2.getD 0 0 < gs.mats.length) ∧ -1 ≤ q.2.getD 3 0 ∧ q.2.getD 3 0 < gs.texs.length
def gsOf (sc : Scn) (n sk : List Int) : GS := ⟨n, sk, sc.lights, sc.mats, sc.texs, sc.skins.map fun k => (k.name, [(k.mat : Int), k.levels, k.unit, k.tex, k.height]), sc.cages⟩
theorem textG_of (sc : Scn) (n sk : List Int) : textG (gsOf sc n sk) = showT sc n sk := by
  rw [← allT_show]
  unfold textG headG allT gsOf cagesG cagesT
  simp only [List.append_assoc]
  congr 7
  rw [List.zip_map_left, List.flatMap_map]
  rfl
end Go.Proofs.YtdkgbdecmgligaaGreatDoor

/- The program's writer: the text that it holds. -/
namespace Go.Proofs.YtdkgbdecmgligaaGreatDoor
open Go.RowKit
set_option linter.unusedVariables false
set_option linter.unusedSimpArgs false
set_option linter.unnecessarySimpa false
theorem cellsByte : Tryz.prog.cellsOf 5 = 1 := by kernel_rfl
/-- Freezing the bytes of a writer keeps all that is no row of bytes. -/
theorem frb_freeze {base : Nat} {W : World} {g : Nat} {cur : Array Value} {fz : Nat × Nat} (hg : W.heap[g]? = some (.cells cur 5 fz)) (hb : base ≤ g) (n : Nat) : FrB base W (W.drew.freeze ⟨g, 0, none⟩ n) := by
  refine ⟨Lib.below_freeze (Below.drew (Below.refl base W)) (p := ⟨g, 0, none⟩) hb _, fun j cs T hj h1 h2 => ?_⟩
  have hne : j ≠ g := fun e => by
    subst e
    have := hj.symm.trans hg
    injection this with this
    injection this with _ q _
    exact h1 q
  unfold World.freeze
  split
  · rfl
  · simp only [Array.getElem?_modify]
    rw [if_neg (Ne.symm hne)]
    rfl
set_option maxHeartbeats 1000000 in
set_option maxRecDepth 100000 in
theorem string_w {base g : Nat} {W : World} {l : List UInt8} {ov : Bool} (h : WW base g W l ov) (h0 : l ≠ []) (hl : l.length ≤ 65536) :
    Calls Tryz.prog 15 #[.pointer (some ⟨g, 0, none⟩)] W fun e W' => e = .returned (.string ⟨l.toArray⟩) ∧ FrB base W W' := by
  obtain ⟨p, v, hU⟩ : ∃ p v, WU base g W p v l ov := by
    obtain ⟨v, h | h⟩ := h
    · exact ⟨_, v, h⟩
    · exact ⟨_, v, h⟩
  have hl0 : l.length ≠ 0 := by simpa using h0
  obtain ⟨b, cap, cur, rfl, hbg, hg, hnc, hcm, hcs, htake⟩ : ∃ b cap cur, v = .slice (some ⟨b, 0, none⟩) l.length cap ∧ base ≤ b ∧ W.heap[b]? = some (.cells cur 5 (0, 0)) ∧ l.length ≤ cap ∧ cap ≤ maxLen ∧ cur.size = cap * 1 ∧ cur.toList.take (l.length * 1) = Lib.byteCells l := by
    rcases hU.own.2 with ⟨_, hz⟩ | ⟨b, cap, cur, hv, r⟩
    · exact absurd hz hl0
    · exact ⟨b, cap, cur, hv, r⟩
  have c1 : W.drew.cell? ⟨g, 1, none⟩ = some (.slice (some ⟨b, 0, none⟩) l.length cap) := (hU.blk.below (Below.drew (Below.refl _ W))).cell 1
  have z1 : W.drew.frozen? ⟨g, 1, none⟩ = false := (hU.blk.below (Below.drew (Below.refl _ W))).frozen 1
  have hgl : g < W.heap.size := hU.blk.lt
  have hSD : (Builtin.unsafeSliceData_ #[57] 92 #[.slice (some ⟨b, 0, none⟩) l.length cap]).run Tryz.prog W.drew = .ok (.pointer (some ⟨b, 0, none⟩)) W.drew :=
    Lib.run_unsafeSliceData_row _ _ _ _ _ _ (by omega)
  have hUS : (Builtin.unsafeString_ #[92, 3] 9 #[.pointer (some ⟨b, 0, none⟩), .int .i64 l.length]).run Tryz.prog W.drew = .ok (.string ⟨l.toArray⟩) (W.drew.freeze ⟨b, 0, none⟩ l.length) := by
    refine Lib.run_unsafeString_row W.drew 92 3 9 5 Tryz.underlying92 cellsByte b cur.size (by have hg' : W.drew.heap[b]? = some (.cells cur 5 (0, 0)) := hg; simp [World.shape?, hg']) l h0 (by omega) (by omega) ?_
    intro j x hx
    have hjl := (List.getElem?_eq_some_iff.1 hx).1
    have hadd : (⟨b, 0, none⟩ : Addr).add j = ⟨b, j, none⟩ := by unfold Addr.add; split <;> simp_all
    have hg' : W.drew.heap[b]? = some (.cells cur 5 (0, 0)) := hg
    rw [hadd, cell_of_row _ b j cur _ _ hg']
    have e : (cur.toList.take (l.length * 1))[j]? = some (.int .u8 x.toNat) := by rw [htake]; simp [Lib.byteCells, hx]
    rw [List.getElem?_take, if_pos (by omega)] at e
    simpa using e
  have mixed : Tryz.prog.follows Departure.mixedOrders = true := by kernel_rfl
  have hF := Lib.hid (frb_freeze hg hbg l.length)
  go_enter Tryz.func15, Tryz.ntmps15
  go_wp2
  go_region_o
  all_goals (go_wp2; go_ret; exact ⟨rfl, hF.out⟩)
end Go.Proofs.YtdkgbdecmgligaaGreatDoor
