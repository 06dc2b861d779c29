/- The program's writer: the lines of what belongs to a cage. -/
import Derived.Test.YtdkgbdecmgligaaGreatDoorMPrtB
namespace Go.Proofs.YtdkgbdecmgligaaGreatDoor
open Go.RowKit
set_option linter.unusedVariables false
set_option linter.unusedSimpArgs false
set_option linter.unnecessarySimpa false
theorem wp_letP {P : Program} {c : Code} {Q : Exit → Act → World → Prop} {a : Act} {w : World} (h : ∀ V : World, V = w → c.wp P Q a V) : c.wp P Q a w := h w rfl
def cageT (c : CageM) : List UInt8 := tx kV c.verts ++ (tx kF c.faces ++ tx kCrease c.creases)
/-- A cage's numbers and their rows. -/
structure CB (base : Nat) (W : World) (A1 A2 A3 : Option Addr) (c : CageM) : Prop where
  pv : ∀ q ∈ c.verts, q.length = 3 ∧ i64L q
  pf : ∀ q ∈ c.faces, q.length ≤ 1048576 ∧ i64L q
  pc : ∀ q ∈ c.creases, q.length = 3 ∧ i64L q
  nv : c.verts.length ≤ 1048576
  nf : c.faces.length ≤ 1048576
  nc : c.creases.length ≤ 1048576
  rv : RB base 3 W A1 (c.verts.map vRow)
  rf : FRB base W A2 c.faces
  rc : RB base 3 W A3 (c.creases.map vRow)
theorem CB.frb {base : Nat} {W W1 : World} {A1 A2 A3 : Option Addr} {c : CageM} (h : CB base W A1 A2 A3 c) (hf : FrB base W W1) : CB base W1 A1 A2 A3 c :=
  ⟨h.pv, h.pf, h.pc, h.nv, h.nf, h.nc, h.rv.frb hf, h.rf.frb hf, h.rc.frb hf⟩
set_option maxRecDepth 100000 in
set_option maxHeartbeats 2000000 in
theorem cage_w {base g c1 c2 c3 : Nat} {A1 A2 A3 : Option Addr} {W : World} {st : Option (List UInt8)} (c : CageM) (hC : CB base W A1 A2 A3 c) (hI : ItoaOk base W) (h : WX base g W st) :
    Calls Tryz.prog 34 #[.pointer (some ⟨g, 0, none⟩), .agg #[.slice A1 c.verts.length c1, .slice A2 c.faces.length c2, .slice A3 c.creases.length c3]] W fun e W' => e = .returned (.tuple #[]) ∧ WX base g W' (addT st (cageT c)) ∧ FrB base W W' := by
  have hmf : ∀ (fn : Fn) (first cap : Array Value) (w : World), (Instr.makeFunc fn first cap).run Tryz.prog w = .ok (.func fn first cap) w := fun _ _ _ _ => rfl
  have hbs := h.bs
  go_enter Tryz.func34, Tryz.ntmps34
  go_upto_region 1 with fail
  refine wp_letP (fun V hVe => ?_)
  have hBV : Below W.heap.size W V := by rw [hVe]; exact bel_alloc (bel_alloc (Below.refl _ _) _) _
  have K : Blk V W.heap.size 81 #[.pointer (some ⟨g, 0, none⟩)] := by rw [hVe]; exact (Blk.new _ _ _ _ rfl).alloc _
  have KC : Blk V (W.heap.size + 1) 48 #[.slice A1 c.verts.length c1, .slice A2 c.faces.length c2, .slice A3 c.creases.length c3] := by rw [hVe]; exact Blk.new _ _ _ _ (by simp)
  clear hVe
  have hFV := FrB.of hbs hBV
  have hX := h.below hBV
  have hCV := hC.frb hFV
  have hIV := hI.frb hFV
  clear h hC hI
  obtain ⟨k, hk⟩ : ∃ k, k = W.heap.size := ⟨_, rfl⟩
  obtain ⟨q, hq⟩ : ∃ q, q = W.heap.size + 1 := ⟨_, rfl⟩
  rw [← hk] at K
  rw [← hq] at KC
  rw [← hq, ← hk]
  clear hk hq
  have e0 : V.cell? ⟨k, 0, none⟩ = some (.pointer (some ⟨g, 0, none⟩)) := K.cell 0
  have d0 : V.cell? ⟨q, 0, none⟩ = some (.slice A1 c.verts.length c1) := KC.cell 0
  have hkl := K.lt
  have hql := KC.lt
  have C1 := Lib.hid (each_V (c := c1) c.verts rfl hCV.pv hCV.nv hIV K hCV.rv hX)
  replace hFV := Lib.hid hFV
  go_upto_region 2 with (go_at_call 61; (with_reducible refine Calls.mono C1.out ?_); rintro e V2 ⟨rfl, hX2, hF2⟩)
  clear e0 d0 hkl hql C1
  have K2 := hF2.blk K (by decide) (by decide)
  have KC2 := hF2.blk KC (by decide) (by decide)
  have hCV2 := hCV.frb hF2
  have hIV2 := hIV.frb hF2
  have e0 : V2.cell? ⟨k, 0, none⟩ = some (.pointer (some ⟨g, 0, none⟩)) := K2.cell 0
  have d0 : V2.cell? ⟨q, 1, none⟩ = some (.slice A2 c.faces.length c2) := KC2.cell 1
  have hkl := K2.lt
  have hql := KC2.lt
  have C1 := Lib.hid (each_F (c := c2) c.faces rfl hCV2.pf hCV2.nf hIV2 K2 hCV2.rf hX2)
  replace hF2 := Lib.hid hF2
  go_upto_region 3 with (go_at_call 63; (with_reducible refine Calls.mono C1.out ?_); rintro e V3 ⟨rfl, hX3, hF3⟩)
  clear e0 d0 hkl hql C1
  have K3 := hF3.blk K2 (by decide) (by decide)
  have KC3 := hF3.blk KC2 (by decide) (by decide)
  have hCV3 := hCV2.frb hF3
  have hIV3 := hIV2.frb hF3
  have e0 : V3.cell? ⟨k, 0, none⟩ = some (.pointer (some ⟨g, 0, none⟩)) := K3.cell 0
  have d0 : V3.cell? ⟨q, 2, none⟩ = some (.slice A3 c.creases.length c3) := KC3.cell 2
  have hkl := K3.lt
  have hql := KC3.lt
  have C1 := Lib.hid (each_C (c := c3) c.creases rfl hCV3.pc hCV3.nc hIV3 K3 hCV3.rc hX3)
  replace hF3 := Lib.hid hF3
  go_wp2_with (go_at_call 65; (with_reducible refine Calls.mono C1.out ?_); rintro e V4 ⟨rfl, hX4, hF4⟩)
  go_end0
  have e : addT (addT (addT st (tx kV c.verts)) (tx kF c.faces)) (tx kCrease c.creases) = addT st (cageT c) := by rw [addT_assoc, addT_assoc]; rfl
  rw [← e]
  exact ⟨rfl, hX4, hFV.out.trans (hF2.out.trans (hF3.out.trans hF4))⟩
end Go.Proofs.YtdkgbdecmgligaaGreatDoor

/- The program's writer: a texture's line. -/
namespace Go.Proofs.YtdkgbdecmgligaaGreatDoor
open Go.RowKit
set_option linter.unusedVariables false
set_option linter.unusedSimpArgs false
set_option linter.unnecessarySimpa false
set_option maxRecDepth 100000 in
set_option maxHeartbeats 2000000 in
theorem texture_w {base g m c : Nat} {B : Option Addr} {W : World} {st : Option (List UInt8)} (name : Wd) (hnm : name.length ≤ 1000000) (a b : Int) (rows : List Int) (hm : rows.length = m) (hm2 : m ≤ 1048576) (hns : i64L (a :: b :: rows)) (hR : NFB base W B rows) (hI : ItoaOk base W) (h : WX base g W st) :
    Calls Tryz.prog 30 #[.pointer (some ⟨g, 0, none⟩), .agg #[.string ⟨name.toArray⟩, .int .i64 a, .int .i64 b, .slice B m c]] W fun e W' => e = .returned (.tuple #[]) ∧ WX base g W' (addT st (kTexture ++ jn (name :: (a :: b :: rows).map shW) ++ [10])) ∧ FrB base W W' := by
  have hbs := h.bs
  go_enter Tryz.func30, Tryz.ntmps30
  go_upto_region 1 with fail
  refine wp_letP (fun V hVe => ?_)
  have hBV : Below W.heap.size W V := by rw [hVe]; exact bel_alloc (Below.refl _ _) _
  have K : Blk V W.heap.size 51 #[.string ⟨name.toArray⟩, .int .i64 a, .int .i64 b, .slice B m c] := by rw [hVe]; exact Blk.new _ _ _ _ rfl
  clear hVe
  have hFV := FrB.of hbs hBV
  have hX := h.below hBV
  have hRV := hR.frb hFV
  have hIV := hI.frb hFV
  clear h hR hI
  obtain ⟨q, hq⟩ : ∃ q, q = W.heap.size := ⟨_, rfl⟩
  rw [← hq] at K
  rw [← hq]
  clear hq
  have C1 := Lib.hid (put_any (⟨#[116, 101, 120, 116, 117, 114, 101]⟩ : ByteArray) (by decide) hX)
  replace hFV := Lib.hid hFV
  go_upto_region 2 with (go_at_call 58; (with_reducible refine Calls.mono C1.out ?_); rintro e V2 ⟨rfl, hX2, hF2⟩)
  clear C1
  have K2 := hF2.blk K (by decide) (by decide)
  have hR2 := hRV.frb hF2
  have hI2 := hIV.frb hF2
  have d0 : V2.cell? ⟨q, 0, none⟩ = some (.string ⟨name.toArray⟩) := K2.cell 0
  have hql := K2.lt
  have hB2 : Below V2.heap.size V2 (V2.alloc (.cells #[.string ⟨name.toArray⟩] 9)) := bel_alloc (Below.refl _ _) _
  have hG2 := FrB.of hX2.bs hB2
  have C1 := Lib.hid (words_any (c := 1) (n := 1) (A := some ⟨V2.heap.size, 0, none⟩) [name] rfl (fun w hw => by simp at hw; subst hw; exact hnm) (by decide) (fun _ => ⟨V2.heap.size, 0, _, rfl, Blk.new V2 9 #[.string ⟨name.toArray⟩] _ rfl, fun i hi => by
      have : i = 0 := by simp at hi; omega
      subst this; rfl⟩) (hX2.below hB2))
  replace hF2 := Lib.hid hF2
  replace hG2 := Lib.hid hG2
  go_upto_region 3 with (go_at_call 60; (with_reducible refine Calls.mono C1.out ?_); rintro e V3 ⟨rfl, hX3, hF3⟩)
  clear C1 d0 hql hB2
  replace hF3 := Lib.hid (hG2.out.trans hF3)
  have K3 := hF3.out.blk K2 (by decide) (by decide)
  have hR3 := hR2.frb hF3.out
  have hI3 := hI2.frb hF3.out
  have d1 : V3.cell? ⟨q, 1, none⟩ = some (.int .i64 a) := K3.cell 1
  have d2 : V3.cell? ⟨q, 2, none⟩ = some (.int .i64 b) := K3.cell 2
  have hql := K3.lt
  have hB3 : Below V3.heap.size V3 (V3.alloc (.cells #[.int .i64 a, .int .i64 b] 3)) := bel_alloc (Below.refl _ _) _
  have hG3 := FrB.of hX3.bs hB3
  have C1 := Lib.hid (numbers_w (c := 2) (n := 2) (A := some ⟨V3.heap.size, 0, none⟩) [a, b] rfl (fun x hx => hns x (by simp at hx ⊢; rcases hx with rfl | rfl <;> simp)) (by decide) (hI3.frb hG3) (nfb_of (Blk.new V3 3 #[.int .i64 a, .int .i64 b] _ rfl) (fun i hi => by rcases (by simp at hi; omega : i = 0 ∨ i = 1) with rfl | rfl <;> rfl)) (hX3.below hB3))
  replace hG3 := Lib.hid hG3
  go_upto_region 4 with (go_at_call 59; (with_reducible refine Calls.mono C1.out ?_); rintro e V4 ⟨rfl, hX4, hF4⟩)
  clear C1 d1 d2 hql hB3
  replace hF4 := Lib.hid (hG3.out.trans hF4)
  have K4 := hF4.out.blk K3 (by decide) (by decide)
  have hR4 := hR3.frb hF4.out
  have hI4 := hI3.frb hF4.out
  have d3 : V4.cell? ⟨q, 3, none⟩ = some (.slice B m c) := K4.cell 3
  have hql := K4.lt
  have C1 := Lib.hid (numbers_w (c := c) rows hm (fun x hx => hns x (by simp [hx])) hm2 hI4 hR4 hX4)
  go_upto_region 5 with (go_at_call 59; (with_reducible refine Calls.mono C1.out ?_); rintro e V5 ⟨rfl, hX5, hF5⟩)
  clear C1 d3 hql
  have C1 := Lib.hid (put_any (⟨#[10]⟩ : ByteArray) (by decide) hX5)
  replace hF5 := Lib.hid hF5
  go_wp2_with (go_at_call 58; (with_reducible refine Calls.mono C1.out ?_); rintro e V6 ⟨rfl, hX6, hF6⟩)
  go_end0
  have e : addT (addT (addT (addT (addT st kTexture) (jn [name])) (jn ([a, b].map shW))) (jn (rows.map shW))) [10] = addT st (kTexture ++ jn (name :: (a :: b :: rows).map shW) ++ [10]) := by
    rw [addT_assoc, addT_assoc, addT_assoc, addT_assoc]
    congr 1
    unfold jn; simp
  rw [← e]
  exact ⟨rfl, hX6, hFV.out.trans (hF2.out.trans (hF3.out.trans (hF4.out.trans (hF5.out.trans hF6))))⟩
end Go.Proofs.YtdkgbdecmgligaaGreatDoor

/- The program's writer: a material's line, a cage's own line. -/
namespace Go.Proofs.YtdkgbdecmgligaaGreatDoor
open Go.RowKit
set_option linter.unusedVariables false
set_option linter.unusedSimpArgs false
set_option linter.unnecessarySimpa false

set_option maxRecDepth 100000 in
set_option maxHeartbeats 2000000 in
theorem material_w {base g : Nat} {W : World} {st : Option (List UInt8)} (name : Wd) (hnm : name.length ≤ 1000000) (a1 a2 a3 a4 a5 a6 a7 a8 : Int) (hns : i64L [a1, a2, a3, a4, a5, a6, a7, a8]) (hI : ItoaOk base W) (h : WX base g W st) :
    Calls Tryz.prog 32 #[.pointer (some ⟨g, 0, none⟩), .agg #[.string ⟨name.toArray⟩, .int .i64 a1, .int .i64 a2, .int .i64 a3, .int .i64 a4, .int .i64 a5, .int .i64 a6, .int .i64 a7, .int .i64 a8]] W fun e W' => e = .returned (.tuple #[]) ∧ WX base g W' (addT st (kMaterial ++ jn (name :: [a1, a2, a3, a4, a5, a6, a7, a8].map shW) ++ [10])) ∧ FrB base W W' := by
  have hbs := h.bs
  go_enter Tryz.func32, Tryz.ntmps32
  go_upto_region 1 with fail
  refine wp_letP (fun V1 hVe => ?_)
  have hBV : Below W.heap.size W V1 := by rw [hVe]; exact bel_alloc (Below.refl _ _) _
  have K1 : Blk V1 W.heap.size 53 #[.string ⟨name.toArray⟩, .int .i64 a1, .int .i64 a2, .int .i64 a3, .int .i64 a4, .int .i64 a5, .int .i64 a6, .int .i64 a7, .int .i64 a8] := by rw [hVe]; exact Blk.new _ _ _ _ rfl
  clear hVe
  have hF1 := FrB.of hbs hBV
  have hX1 := h.below hBV
  have hI1 := hI.frb hF1
  clear h hI
  obtain ⟨q, hq⟩ : ∃ q, q = W.heap.size := ⟨_, rfl⟩
  rw [← hq] at K1
  rw [← hq]
  clear hq
  replace hF1 := Lib.hid hF1
  have C1 := Lib.hid (put_any (⟨#[109, 97, 116, 101, 114, 105, 97, 108]⟩ : ByteArray) (by decide) hX1)
  go_upto_region 2 with (go_at_call 58; (with_reducible refine Calls.mono C1.out ?_); rintro e V2 ⟨rfl, hX2, hF2⟩)
  replace hF2 := Lib.hid (hF2)
  clear C1 
  have K2 := hF2.out.blk K1 (by decide) (by decide)
  have hI2 := hI1.frb hF2.out
  have d0 : V2.cell? ⟨q, 0, none⟩ = some (.string ⟨name.toArray⟩) := K2.cell 0
  have hql := K2.lt
  have hB2 : Below V2.heap.size V2 (V2.alloc (.cells #[.string ⟨(name).toArray⟩] 9)) := bel_alloc (Below.refl _ _) _
  have hG2 := FrB.of hX2.bs hB2
  have C1 := Lib.hid (words_any (c := 1) (n := 1) (A := some ⟨V2.heap.size, 0, none⟩) [name] rfl (fun w hw => by simp at hw; rcases hw with rfl <;> first | exact hnm ) (by decide) (fun _ => ⟨V2.heap.size, 0, _, rfl, Blk.new V2 9 #[.string ⟨(name).toArray⟩] _ rfl, fun i hi => by rcases (by simp at hi; omega : i = 0) with rfl <;> rfl⟩) (hX2.below hB2))
  replace hG2 := Lib.hid hG2
  go_upto_region 3 with (go_at_call 60; (with_reducible refine Calls.mono C1.out ?_); rintro e V3 ⟨rfl, hX3, hF3⟩)
  replace hF3 := Lib.hid (hG2.out.trans hF3)
  clear C1 d0 hql hB2
  have K3 := hF3.out.blk K2 (by decide) (by decide)
  have hI3 := hI2.frb hF3.out
  have d1 : V3.cell? ⟨q, 1, none⟩ = some (.int .i64 a1) := K3.cell 1
  have d2 : V3.cell? ⟨q, 2, none⟩ = some (.int .i64 a2) := K3.cell 2
  have d3 : V3.cell? ⟨q, 3, none⟩ = some (.int .i64 a3) := K3.cell 3
  have d4 : V3.cell? ⟨q, 4, none⟩ = some (.int .i64 a4) := K3.cell 4
  have d5 : V3.cell? ⟨q, 5, none⟩ = some (.int .i64 a5) := K3.cell 5
  have d6 : V3.cell? ⟨q, 6, none⟩ = some (.int .i64 a6) := K3.cell 6
  have d7 : V3.cell? ⟨q, 7, none⟩ = some (.int .i64 a7) := K3.cell 7
  have d8 : V3.cell? ⟨q, 8, none⟩ = some (.int .i64 a8) := K3.cell 8
  have hql := K3.lt
  have hB3 : Below V3.heap.size V3 (V3.alloc (.cells #[.int .i64 a1, .int .i64 a2, .int .i64 a3, .int .i64 a4, .int .i64 a5, .int .i64 a6, .int .i64 a7, .int .i64 a8] 3)) := bel_alloc (Below.refl _ _) _
  have hG3 := FrB.of hX3.bs hB3
  have C1 := Lib.hid (numbers_w (c := 8) (n := 8) (A := some ⟨V3.heap.size, 0, none⟩) [a1, a2, a3, a4, a5, a6, a7, a8] rfl (fun x hx => hns x (by simp at hx ⊢; rcases hx with rfl | rfl | rfl | rfl | rfl | rfl | rfl | rfl <;> simp)) (by decide) (hI3.frb hG3) (nfb_of (Blk.new V3 3 #[.int .i64 a1, .int .i64 a2, .int .i64 a3, .int .i64 a4, .int .i64 a5, .int .i64 a6, .int .i64 a7, .int .i64 a8] _ rfl) (fun i hi => by rcases (by simp at hi; omega : i = 0 ∨ i = 1 ∨ i = 2 ∨ i = 3 ∨ i = 4 ∨ i = 5 ∨ i = 6 ∨ i = 7) with rfl | rfl | rfl | rfl | rfl | rfl | rfl | rfl <;> rfl)) (hX3.below hB3))
  replace hG3 := Lib.hid hG3
  go_upto_region 4 with (go_at_call 59; (with_reducible refine Calls.mono C1.out ?_); rintro e V4 ⟨rfl, hX4, hF4⟩)
  replace hF4 := Lib.hid (hG3.out.trans hF4)
  clear C1 d1 d2 d3 d4 d5 d6 d7 d8 hql hB3
  have K4 := hF4.out.blk K3 (by decide) (by decide)
  have hI4 := hI3.frb hF4.out
  have C1 := Lib.hid (put_any (⟨#[10]⟩ : ByteArray) (by decide) hX4)
  go_wp2_with (go_at_call 58; (with_reducible refine Calls.mono C1.out ?_); rintro e V5 ⟨rfl, hX5, hF5⟩)
  replace hF5 := Lib.hid (hF5)
  go_end0
  have e : addT (addT (addT (addT (st) kMaterial) (jn [name])) (jn ([a1, a2, a3, a4, a5, a6, a7, a8].map shW))) [10] = addT st (kMaterial ++ jn (name :: [a1, a2, a3, a4, a5, a6, a7, a8].map shW) ++ [10]) := by
    rw [addT_assoc]; rw [addT_assoc]; rw [addT_assoc]
    congr 1
    unfold jn; simp
  rw [← e]
  exact ⟨rfl, hX5, hF1.out.trans (hF2.out.trans (hF3.out.trans (hF4.out.trans (hF5.out))))⟩

set_option maxRecDepth 100000 in
set_option maxHeartbeats 2000000 in
theorem skin_w {base g : Nat} {W : World} {st : Option (List UInt8)} (name mw tw : Wd) (hnm : name.length ≤ 1000000) (hmw : mw.length ≤ 1000000) (htw : tw.length ≤ 1000000) (mat lv un tex ht : Int) (hns : i64L [lv, un, ht]) (hI : ItoaOk base W) (h : WX base g W st) :
    Calls Tryz.prog 33 #[.pointer (some ⟨g, 0, none⟩), .agg #[.string ⟨name.toArray⟩, .int .i64 mat, .int .i64 lv, .int .i64 un, .int .i64 tex, .int .i64 ht], .string ⟨mw.toArray⟩, .string ⟨tw.toArray⟩] W fun e W' => e = .returned (.tuple #[]) ∧ WX base g W' (addT st (kCage ++ jn [name, mw, shW lv, shW un, tw, shW ht] ++ [10])) ∧ FrB base W W' := by
  have hbs := h.bs
  go_enter Tryz.func33, Tryz.ntmps33
  go_upto_region 1 with fail
  refine wp_letP (fun V1 hVe => ?_)
  have hBV : Below W.heap.size W V1 := by rw [hVe]; exact bel_alloc (Below.refl _ _) _
  have K1 : Blk V1 W.heap.size 55 #[.string ⟨name.toArray⟩, .int .i64 mat, .int .i64 lv, .int .i64 un, .int .i64 tex, .int .i64 ht] := by rw [hVe]; exact Blk.new _ _ _ _ rfl
  clear hVe
  have hF1 := FrB.of hbs hBV
  have hX1 := h.below hBV
  have hI1 := hI.frb hF1
  clear h hI
  obtain ⟨q, hq⟩ : ∃ q, q = W.heap.size := ⟨_, rfl⟩
  rw [← hq] at K1
  rw [← hq]
  clear hq
  replace hF1 := Lib.hid hF1
  have C1 := Lib.hid (put_any (⟨#[99, 97, 103, 101]⟩ : ByteArray) (by decide) hX1)
  go_upto_region 2 with (go_at_call 58; (with_reducible refine Calls.mono C1.out ?_); rintro e V2 ⟨rfl, hX2, hF2⟩)
  replace hF2 := Lib.hid (hF2)
  clear C1 
  have K2 := hF2.out.blk K1 (by decide) (by decide)
  have hI2 := hI1.frb hF2.out
  have d0 : V2.cell? ⟨q, 0, none⟩ = some (.string ⟨name.toArray⟩) := K2.cell 0
  have hql := K2.lt
  have hB2 : Below V2.heap.size V2 (V2.alloc (.cells #[.string ⟨(name).toArray⟩, .string ⟨(mw).toArray⟩] 9)) := bel_alloc (Below.refl _ _) _
  have hG2 := FrB.of hX2.bs hB2
  have C1 := Lib.hid (words_any (c := 2) (n := 2) (A := some ⟨V2.heap.size, 0, none⟩) [name, mw] rfl (fun w hw => by simp at hw; rcases hw with rfl | rfl <;> first | exact hnm | exact hmw | exact htw ) (by decide) (fun _ => ⟨V2.heap.size, 0, _, rfl, Blk.new V2 9 #[.string ⟨(name).toArray⟩, .string ⟨(mw).toArray⟩] _ rfl, fun i hi => by rcases (by simp at hi; omega : i = 0 ∨ i = 1) with rfl | rfl <;> rfl⟩) (hX2.below hB2))
  replace hG2 := Lib.hid hG2
  go_upto_region 3 with (go_at_call 60; (with_reducible refine Calls.mono C1.out ?_); rintro e V3 ⟨rfl, hX3, hF3⟩)
  replace hF3 := Lib.hid (hG2.out.trans hF3)
  clear C1 d0 hql hB2
  have K3 := hF3.out.blk K2 (by decide) (by decide)
  have hI3 := hI2.frb hF3.out
  have d2 : V3.cell? ⟨q, 2, none⟩ = some (.int .i64 lv) := K3.cell 2
  have d3 : V3.cell? ⟨q, 3, none⟩ = some (.int .i64 un) := K3.cell 3
  have hql := K3.lt
  have hB3 : Below V3.heap.size V3 (V3.alloc (.cells #[.int .i64 lv, .int .i64 un] 3)) := bel_alloc (Below.refl _ _) _
  have hG3 := FrB.of hX3.bs hB3
  have C1 := Lib.hid (numbers_w (c := 2) (n := 2) (A := some ⟨V3.heap.size, 0, none⟩) [lv, un] rfl (fun x hx => hns x (by simp at hx ⊢; rcases hx with rfl | rfl <;> simp)) (by decide) (hI3.frb hG3) (nfb_of (Blk.new V3 3 #[.int .i64 lv, .int .i64 un] _ rfl) (fun i hi => by rcases (by simp at hi; omega : i = 0 ∨ i = 1) with rfl | rfl <;> rfl)) (hX3.below hB3))
  replace hG3 := Lib.hid hG3
  go_upto_region 4 with (go_at_call 59; (with_reducible refine Calls.mono C1.out ?_); rintro e V4 ⟨rfl, hX4, hF4⟩)
  replace hF4 := Lib.hid (hG3.out.trans hF4)
  clear C1 d2 d3 hql hB3
  have K4 := hF4.out.blk K3 (by decide) (by decide)
  have hI4 := hI3.frb hF4.out
  have hB4 : Below V4.heap.size V4 (V4.alloc (.cells #[.string ⟨(tw).toArray⟩] 9)) := bel_alloc (Below.refl _ _) _
  have hG4 := FrB.of hX4.bs hB4
  have C1 := Lib.hid (words_any (c := 1) (n := 1) (A := some ⟨V4.heap.size, 0, none⟩) [tw] rfl (fun w hw => by simp at hw; rcases hw with rfl <;> first | exact hnm | exact hmw | exact htw ) (by decide) (fun _ => ⟨V4.heap.size, 0, _, rfl, Blk.new V4 9 #[.string ⟨(tw).toArray⟩] _ rfl, fun i hi => by rcases (by simp at hi; omega : i = 0) with rfl <;> rfl⟩) (hX4.below hB4))
  replace hG4 := Lib.hid hG4
  go_upto_region 5 with (go_at_call 60; (with_reducible refine Calls.mono C1.out ?_); rintro e V5 ⟨rfl, hX5, hF5⟩)
  replace hF5 := Lib.hid (hG4.out.trans hF5)
  clear C1  hB4
  have K5 := hF5.out.blk K4 (by decide) (by decide)
  have hI5 := hI4.frb hF5.out
  have d5 : V5.cell? ⟨q, 5, none⟩ = some (.int .i64 ht) := K5.cell 5
  have hql := K5.lt
  have hB5 : Below V5.heap.size V5 (V5.alloc (.cells #[.int .i64 ht] 3)) := bel_alloc (Below.refl _ _) _
  have hG5 := FrB.of hX5.bs hB5
  have C1 := Lib.hid (numbers_w (c := 1) (n := 1) (A := some ⟨V5.heap.size, 0, none⟩) [ht] rfl (fun x hx => hns x (by simp at hx ⊢; rcases hx with rfl <;> simp)) (by decide) (hI5.frb hG5) (nfb_of (Blk.new V5 3 #[.int .i64 ht] _ rfl) (fun i hi => by rcases (by simp at hi; omega : i = 0) with rfl <;> rfl)) (hX5.below hB5))
  replace hG5 := Lib.hid hG5
  go_upto_region 6 with (go_at_call 59; (with_reducible refine Calls.mono C1.out ?_); rintro e V6 ⟨rfl, hX6, hF6⟩)
  replace hF6 := Lib.hid (hG5.out.trans hF6)
  clear C1 d5 hql hB5
  have K6 := hF6.out.blk K5 (by decide) (by decide)
  have hI6 := hI5.frb hF6.out
  have C1 := Lib.hid (put_any (⟨#[10]⟩ : ByteArray) (by decide) hX6)
  go_wp2_with (go_at_call 58; (with_reducible refine Calls.mono C1.out ?_); rintro e V7 ⟨rfl, hX7, hF7⟩)
  replace hF7 := Lib.hid (hF7)
  go_end0
  have e : addT (addT (addT (addT (addT (addT (st) kCage) (jn [name, mw])) (jn ([lv, un].map shW))) (jn [tw])) (jn ([ht].map shW))) [10] = addT st (kCage ++ jn [name, mw, shW lv, shW un, tw, shW ht] ++ [10]) := by
    rw [addT_assoc]; rw [addT_assoc]; rw [addT_assoc]; rw [addT_assoc]; rw [addT_assoc]
    congr 1
    unfold jn; simp
  rw [← e]
  exact ⟨rfl, hX7, hF1.out.trans (hF2.out.trans (hF3.out.trans (hF4.out.trans (hF5.out.trans (hF6.out.trans (hF7.out))))))⟩
end Go.Proofs.YtdkgbdecmgligaaGreatDoor

/- The program's writer: the textures and the materials, one behind the other. -/
namespace Go.Proofs.YtdkgbdecmgligaaGreatDoor
open Go.RowKit
set_option linter.unusedVariables false
set_option linter.unusedSimpArgs false
set_option linter.unnecessarySimpa false
/-- A line of a first word, a name and numbers. -/
def nl (kd : Wd) (q : Wd × List Int) : List UInt8 := kd ++ jn (q.1 :: q.2.map shW) ++ [10]
def txN (kd : Wd) (ps : List (Wd × List Int)) : List UInt8 := ps.flatMap (nl kd)
theorem txN_take (kd : Wd) {ps : List (Wd × List Int)} {j : Nat} (h : j < ps.length) : txN kd (ps.take (j + 1)) = txN kd (ps.take j) ++ nl kd ps[j] := by
  rw [List.take_succ_eq_append_getElem h]
  unfold txN
  rw [List.flatMap_append, List.flatMap_cons, List.flatMap_nil, List.append_nil]
theorem txN_split (kd : Wd) (ps : List (Wd × List Int)) (j : Nat) : txN kd ps = txN kd (ps.take j) ++ txN kd (ps.drop j) := by
  unfold txN
  rw [← List.flatMap_append, List.take_append_drop]
def tRow (q : Wd × List Int) (B : Option Addr) (m : Nat) : List Value := [.string ⟨q.1.toArray⟩, .int .i64 (q.2.getD 0 0), .int .i64 (q.2.getD 1 0), .slice B (q.2.drop 2).length m]
/-- Textures, and their rows. -/
def TRB (base : Nat) (W : World) (A : Option Addr) (ps : List (Wd × List Int)) : Prop := 0 < ps.length → ∃ b off, A = some ⟨b, off, none⟩ ∧ Kp base W b ∧ ∀ i (h : i < ps.length), ∃ B m, (∀ j, j < 4 → W.cell? ⟨b, off + i * 4 + j, none⟩ = (tRow ps[i] B m)[j]?) ∧ NFB base W B (ps[i].2.drop 2)
theorem TRB.frb {base : Nat} {W W1 : World} {A : Option Addr} {ps : List (Wd × List Int)} (h : TRB base W A ps) (hf : FrB base W W1) : TRB base W1 A ps := fun h0 => by
  obtain ⟨b, off, e, hb, hc⟩ := h h0
  refine ⟨b, off, e, hb.frb hf, fun i hi => ?_⟩
  obtain ⟨B, m, h1, h2⟩ := hc i hi
  exact ⟨B, m, fun j hj => (hb.cell hf _).trans (h1 j hj), h2.frb hf⟩
theorem TRB.at_ {base : Nat} {W : World} {A : Option Addr} {ps : List (Wd × List Int)} (h : TRB base W A ps) (j : Nat) (hj : j < ps.length) : ∃ b off B m, A = some ⟨b, off, none⟩ ∧ b < W.heap.size ∧ W.rangeAt b (off + j * 4) (tRow ps[j] B m) ∧ NFB base W B (ps[j].2.drop 2) := by
  obtain ⟨b, off, e, hb, hc⟩ := h (by omega)
  obtain ⟨B, m, h1, h2⟩ := hc j hj
  refine ⟨b, off, B, m, e, hb.1, fun i v hv => ?_, h2⟩
  have hjl : i < 4 := (List.getElem?_eq_some_iff.1 hv).1
  rw [h1 i hjl]; exact hv
def mRow (q : Wd × List Int) : List Value := [.string ⟨q.1.toArray⟩, .int .i64 (q.2.getD 0 0), .int .i64 (q.2.getD 1 0), .int .i64 (q.2.getD 2 0), .int .i64 (q.2.getD 3 0), .int .i64 (q.2.getD 4 0), .int .i64 (q.2.getD 5 0), .int .i64 (q.2.getD 6 0), .int .i64 (q.2.getD 7 0)]
theorem infoT4 : (Tryz.prog.info? 51).map (·.size) = some 4 := by kernel_rfl
theorem infoM9 : (Tryz.prog.info? 53).map (·.size) = some 9 := by kernel_rfl
set_option maxRecDepth 100000 in
set_option maxHeartbeats 1000000 in
theorem each_T {base g n c : Nat} {A : Option Addr} {W : World} {st : Option (List UInt8)} (ps : List (Wd × List Int)) (hn : ps.length = n) (hp : ∀ q ∈ ps, q.1.length ≤ 1000000 ∧ 2 ≤ q.2.length ∧ q.2.length ≤ 1048576 ∧ i64L q.2) (hm : n ≤ 1048576) (hI : ItoaOk base W) (hA : TRB base W A ps) (h : WX base g W st) :
    Calls Tryz.prog 29 #[.pointer (some ⟨g, 0, none⟩), .slice A n c, .func (Fn.func 30) #[.pointer (some ⟨g, 0, none⟩)] #[]] W fun e W' => e = .returned (.tuple #[]) ∧ WX base g W' (addT st (txN kTexture ps)) ∧ FrB base W W' := by
  go_enter Tryz.func29, Tryz.ntmps29
  go_wp2_with fail
  go_loopw [10] (fun i wr => ∃ (j : Nat), i = .int .i64 (j : Int) ∧ j ≤ n ∧ Hid (WX base g wr (addT st (txN kTexture (ps.take j)))) ∧ Hid (FrB base W wr)) (fun i _ => n - (intOf i).toNat)
  case atStart => exact ⟨0, rfl, by omega, Lib.hid (by have e : addT st (txN kTexture (ps.take 0)) = st := h.nil; rw [e]; exact h), Lib.hid (FrB.refl _ _)⟩
  case round =>
    obtain ⟨j, rfl, hj, hX, hF⟩ := hrel
    by_cases hlt : j < n
    · have hlw : j < ps.length := by omega
      obtain ⟨b, off, B, m, rfl, hbl, hr, hN⟩ := (hA.frb hF.out).at_ j hlw
      obtain ⟨hnm, hl2, hlm, h64⟩ := hp ps[j] (List.getElem_mem hlw)
      have k0 : (0 : Int) ≤ (j : Int) := by omega
      have k1 : (j : Int) < (n : Int) := by omega
      obtain ⟨nm, x, y, rows, hq⟩ : ∃ nm x y rows, ps[j] = (nm, x :: y :: rows) := by
        match ps[j], hl2 with
        | (nm, x :: y :: rows), _ => exact ⟨nm, x, y, rows, rfl⟩
      obtain ⟨p, hpl⟩ : ∃ p, rows.length = p := ⟨_, rfl⟩
      have rng : wr.rangeAt b (off + j * 4) [.string ⟨nm.toArray⟩, .int .i64 x, .int .i64 y, .slice B p m] := by
        have e : tRow ps[j] B m = [.string ⟨nm.toArray⟩, .int .i64 x, .int .i64 y, .slice B p m] := by rw [hq, ← hpl]; rfl
        rw [← e]; exact hr
      rw [hq] at hnm hlm h64 hN
      have hlm2 : p ≤ 1048576 := by rw [← hpl]; simp at hlm; omega
      clear hr hl2 hlm
      obtain ⟨ov, o1, o2, o3⟩ := hX.out.over?
      have hB : Below wr.heap.size wr (wr.alloc (.cells #[.string ⟨nm.toArray⟩, .int .i64 x, .int .i64 y, .slice B p m] 51)) := bel_alloc (Below.refl _ _) _
      have hX' := Lib.hid (hX.out.below hB)
      have hF' := Lib.hid (hF.out.trans (FrB.of hX.out.bs hB))
      have C1 := Lib.hid (texture_w (c := m) nm hnm x y rows hpl hlm2 h64 ((show NFB base wr B rows from hN).frb (FrB.of hX.out.bs hB)) (hI.frb hF'.out) hX'.out)
      have HE := Lib.hid (show addT (addT st (txN kTexture (ps.take j))) (kTexture ++ jn (nm :: (x :: y :: rows).map shW) ++ [10]) = addT st (txN kTexture (ps.take (j + 1))) by rw [addT_assoc, txN_take kTexture hlw, hq]; rfl)
      have HZ := Lib.hid (show ov = true → addT st (txN kTexture ps) = addT st (txN kTexture (ps.take j)) from fun e => by
        rw [txN_split kTexture ps j, ← addT_assoc, o3 e]; rfl)
      replace rng := Lib.hid rng
      clear hA o3 hq hnm h64 hB
      cases ov
      · go_wp2_with (first | (refine wpList_load_mid rfl 51 _ rfl b (off + j * 4) rfl [.string ⟨nm.toArray⟩, .int .i64 x, .int .i64 y, .slice B p m] _ rng.out Tryz.underlying51 rfl infoT4 ?_) | (go_at_call 30; (with_reducible refine Calls.mono C1.out ?_); rintro e W1 ⟨rfl, hX1, hF1⟩))
        go_roundw
        case rel => exact ⟨j + 1, by go_num, by omega, Lib.hid (by rw [← HE.out]; exact hX1), Lib.hid (hF'.out.trans hF1)⟩
        case measure => simp [intOf] <;> omega
      · go_wp2_with (refine wpList_load_mid rfl 51 _ rfl b (off + j * 4) rfl [.string ⟨nm.toArray⟩, .int .i64 x, .int .i64 y, .slice B p m] _ rng.out Tryz.underlying51 rfl infoT4 ?_)
        refine bodyPost_ret (results_none rfl _ _ _) rfl ?_
        rw [HZ.out (by first | rfl | trivial)]
        exact ⟨rfl, hX'.out, hF'.out⟩
    · obtain rfl : j = n := by omega
      have e : ps.take j = ps := List.take_of_length_le (by omega)
      rw [e] at hX
      go_wp2_with fail
      go_end0
      exact ⟨rfl, hX.out, hF.out⟩
set_option maxRecDepth 100000 in
set_option maxHeartbeats 1000000 in
theorem each_M {base g n c : Nat} {A : Option Addr} {W : World} {st : Option (List UInt8)} (ps : List (Wd × List Int)) (hn : ps.length = n) (hp : ∀ q ∈ ps, q.1.length ≤ 1000000 ∧ q.2.length = 8 ∧ i64L q.2) (hm : n ≤ 1048576) (hI : ItoaOk base W) (hA : RB base 9 W A (ps.map mRow)) (h : WX base g W st) :
    Calls Tryz.prog 31 #[.pointer (some ⟨g, 0, none⟩), .slice A n c, .func (Fn.func 32) #[.pointer (some ⟨g, 0, none⟩)] #[]] W fun e W' => e = .returned (.tuple #[]) ∧ WX base g W' (addT st (txN kMaterial ps)) ∧ FrB base W W' := by
  go_enter Tryz.func31, Tryz.ntmps31
  go_wp2_with fail
  go_loopw [10] (fun i wr => ∃ (j : Nat), i = .int .i64 (j : Int) ∧ j ≤ n ∧ Hid (WX base g wr (addT st (txN kMaterial (ps.take j)))) ∧ Hid (FrB base W wr)) (fun i _ => n - (intOf i).toNat)
  case atStart => exact ⟨0, rfl, by omega, Lib.hid (by have e : addT st (txN kMaterial (ps.take 0)) = st := h.nil; rw [e]; exact h), Lib.hid (FrB.refl _ _)⟩
  case round =>
    obtain ⟨j, rfl, hj, hX, hF⟩ := hrel
    by_cases hlt : j < n
    · have hlw : j < ps.length := by omega
      obtain ⟨b, off, rfl, hbl, hr⟩ := (hA.frb hF.out).range j (by simpa using hlw)
      obtain ⟨hnm, hl8, h64⟩ := hp ps[j] (List.getElem_mem hlw)
      have k0 : (0 : Int) ≤ (j : Int) := by omega
      have k1 : (j : Int) < (n : Int) := by omega
      obtain ⟨nm, a1, a2, a3, a4, a5, a6, a7, a8, hq⟩ : ∃ nm a1 a2 a3 a4 a5 a6 a7 a8, ps[j] = (nm, [a1, a2, a3, a4, a5, a6, a7, a8]) := by
        match ps[j], hl8 with
        | (nm, [a1, a2, a3, a4, a5, a6, a7, a8]), _ => exact ⟨nm, a1, a2, a3, a4, a5, a6, a7, a8, rfl⟩
      have rng : wr.rangeAt b (off + j * 9) [.string ⟨nm.toArray⟩, .int .i64 a1, .int .i64 a2, .int .i64 a3, .int .i64 a4, .int .i64 a5, .int .i64 a6, .int .i64 a7, .int .i64 a8] := by
        have e : (ps.map mRow)[j]'(by simpa using hlw) = [.string ⟨nm.toArray⟩, .int .i64 a1, .int .i64 a2, .int .i64 a3, .int .i64 a4, .int .i64 a5, .int .i64 a6, .int .i64 a7, .int .i64 a8] := by rw [List.getElem_map, hq]; rfl
        rw [← e]; exact hr
      rw [hq] at hnm h64
      clear hr hl8
      obtain ⟨ov, o1, o2, o3⟩ := hX.out.over?
      have hB : Below wr.heap.size wr (wr.alloc (.cells #[.string ⟨nm.toArray⟩, .int .i64 a1, .int .i64 a2, .int .i64 a3, .int .i64 a4, .int .i64 a5, .int .i64 a6, .int .i64 a7, .int .i64 a8] 53)) := bel_alloc (Below.refl _ _) _
      have hX' := Lib.hid (hX.out.below hB)
      have hF' := Lib.hid (hF.out.trans (FrB.of hX.out.bs hB))
      have C1 := Lib.hid (material_w nm hnm a1 a2 a3 a4 a5 a6 a7 a8 h64 (hI.frb hF'.out) hX'.out)
      have HE := Lib.hid (show addT (addT st (txN kMaterial (ps.take j))) (kMaterial ++ jn (nm :: ([a1, a2, a3, a4, a5, a6, a7, a8]).map shW) ++ [10]) = addT st (txN kMaterial (ps.take (j + 1))) by rw [addT_assoc, txN_take kMaterial hlw, hq]; rfl)
      have HZ := Lib.hid (show ov = true → addT st (txN kMaterial ps) = addT st (txN kMaterial (ps.take j)) from fun e => by
        rw [txN_split kMaterial ps j, ← addT_assoc, o3 e]; rfl)
      replace rng := Lib.hid rng
      clear hA o3 hq hnm h64 hB
      cases ov
      · go_wp2_with (first | (refine wpList_load_mid rfl 53 _ rfl b (off + j * 9) rfl [.string ⟨nm.toArray⟩, .int .i64 a1, .int .i64 a2, .int .i64 a3, .int .i64 a4, .int .i64 a5, .int .i64 a6, .int .i64 a7, .int .i64 a8] _ rng.out Tryz.underlying53 rfl infoM9 ?_) | (go_at_call 32; (with_reducible refine Calls.mono C1.out ?_); rintro e W1 ⟨rfl, hX1, hF1⟩))
        go_roundw
        case rel => exact ⟨j + 1, by go_num, by omega, Lib.hid (by rw [← HE.out]; exact hX1), Lib.hid (hF'.out.trans hF1)⟩
        case measure => simp [intOf] <;> omega
      · go_wp2_with (refine wpList_load_mid rfl 53 _ rfl b (off + j * 9) rfl [.string ⟨nm.toArray⟩, .int .i64 a1, .int .i64 a2, .int .i64 a3, .int .i64 a4, .int .i64 a5, .int .i64 a6, .int .i64 a7, .int .i64 a8] _ rng.out Tryz.underlying53 rfl infoM9 ?_)
        refine bodyPost_ret (results_none rfl _ _ _) rfl ?_
        rw [HZ.out (by first | rfl | trivial)]
        exact ⟨rfl, hX'.out, hF'.out⟩
    · obtain rfl : j = n := by omega
      have e : ps.take j = ps := List.take_of_length_le (by omega)
      rw [e] at hX
      go_wp2_with fail
      go_end0
      exact ⟨rfl, hX.out, hF.out⟩
end Go.Proofs.YtdkgbdecmgligaaGreatDoor
