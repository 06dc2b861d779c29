/- A scene as a reader holds it: a block of 26 cells, and rows of its own. -/
import Derived.Test.YtdkgbdecmgligaaGreatDoorScnO
import Derived.Test.YtdkgbdecmgligaaGreatDoorScn7
namespace Go.Proofs.YtdkgbdecmgligaaGreatDoor
open Go.RowKit
set_option linter.unusedVariables false
set_option linter.unusedSimpArgs false
inductive Key where
  | lights | mats | texs | skins | cages
  | tex (i : Nat) | vert (i : Nat) | face (i : Nat) | crease (i : Nat)
  | frow (i j : Nat)
def cageAt (sc : Scn) (i : Nat) : CageM := sc.cages.getD i ⟨[], [], []⟩
def texAt (sc : Scn) (i : Nat) : Wd × List Int := sc.texs.getD i ([], [])
def vNil : Value := .slice none 0 0
def texSS (sc : Scn) (val : Key → Value) : List ((Wd × List Int) × Value) := (List.range sc.texs.length).map fun i => (texAt sc i, val (.tex i))
def cageSS (n : Nat) (val : Key → Value) : List (Value × Value × Value) := (List.range n).map fun i => (val (.vert i), val (.face i), val (.crease i))
def rowsOf (sc : Scn) (val : Key → Value) : Key → Rw
  | .lights => ⟨false, 76, 6, val .lights, sc.lights.length, sc.lights.flatMap fL⟩
  | .mats => ⟨false, 53, 9, val .mats, sc.mats.length, sc.mats.flatMap fM⟩
  | .texs => ⟨false, 51, 4, val .texs, sc.texs.length, (texSS sc val).flatMap fT⟩
  | .skins => ⟨false, 55, 6, val .skins, sc.skins.length, sc.skins.flatMap fS⟩
  | .cages => ⟨false, 48, 3, val .cages, sc.cages.length, (cageSS sc.cages.length val).flatMap fC⟩
  | .tex i => ⟨true, 3, 1, val (.tex i), ((texAt sc i).2.drop 2).length, i64s ((texAt sc i).2.drop 2)⟩
  | .vert i => ⟨false, 23, 3, val (.vert i), (cageAt sc i).verts.length, flat3 (cageAt sc i).verts⟩
  | .face i => ⟨false, 49, 1, val (.face i), (cageAt sc i).faces.length, (List.range (cageAt sc i).faces.length).map fun j => val (.frow i j)⟩
  | .crease i => ⟨false, 98, 3, val (.crease i), (cageAt sc i).creases.length, flat3 (cageAt sc i).creases⟩
  | .frow i j => ⟨true, 3, 1, val (.frow i j), ((cageAt sc i).faces.getD j []).length, i64s ((cageAt sc i).faces.getD j [])⟩
def camN (sc : Scn) : List Int := sc.cam.getD []
def skyN (sc : Scn) : List Int := sc.sky.getD []
def rcells (sc : Scn) (val : Key → Value) : Array Value := #[.int .i64 ((camN sc).getD 0 0), .int .i64 ((camN sc).getD 1 0), .int .i64 ((camN sc).getD 2 0), .int .i64 ((camN sc).getD 3 0), .int .i64 ((camN sc).getD 4 0), .int .i64 ((camN sc).getD 5 0), .int .i64 ((camN sc).getD 6 0), .int .i64 ((camN sc).getD 7 0), .int .i64 ((camN sc).getD 8 0), .int .i64 ((camN sc).getD 9 0), .int .i64 ((camN sc).getD 10 0), .int .i64 ((camN sc).getD 11 0), .int .i64 ((camN sc).getD 12 0), .int .i64 ((camN sc).getD 13 0), .int .i64 ((camN sc).getD 14 0), .int .i64 ((camN sc).getD 15 0), .int .i64 ((skyN sc).getD 0 0), .int .i64 ((skyN sc).getD 1 0), .int .i64 ((skyN sc).getD 2 0), val .lights, val .mats, val .texs, val .skins, val .cages, .bool sc.cam.isSome, .bool sc.sky.isSome]
structure RepV (base : Nat) (W : World) (g : Nat) (TR : TypeId) (sc : Scn) (val : Key → Value) : Prop where
  blk : Blk W g TR (rcells sc val)
  own : Owns base W g (rowsOf sc val)
  nilT : ∀ i, sc.texs.length ≤ i → val (.tex i) = vNil
  nilV : ∀ i, sc.cages.length ≤ i → val (.vert i) = vNil
  nilF : ∀ i, sc.cages.length ≤ i → val (.face i) = vNil
  nilC : ∀ i, sc.cages.length ≤ i → val (.crease i) = vNil
  nilR : ∀ i j, (cageAt sc i).faces.length ≤ j → val (.frow i j) = vNil
  base_le : base ≤ g
section
variable {base g : Nat} {W W1 W2 : World} {TR : TypeId} {sc : Scn} {val : Key → Value}
theorem RepV.lt (h : RepV base W g TR sc val) : g < W.heap.size := h.blk.lt
theorem RepV.below (h : RepV base W g TR sc val) (hb : Below W.heap.size W W1) : RepV base W1 g TR sc val :=
  ⟨h.blk.below hb, h.own.below hb, h.nilT, h.nilV, h.nilF, h.nilC, h.nilR, h.base_le⟩
theorem RepV.grow (h : RepV base W g TR sc val) (x : More) : RepV base (grow W x) g TR sc val := h.below (x.kept W)
theorem gb_beside (W : World) (g i : Nat) (u : Value) : W.grownBy (W.setCell ⟨g, i, none⟩ u) (some g) := gb_set (World.grownBy.refl _ _) i u
theorem Blk.kept {cs : Array Value} (h : Blk W g TR cs) {row : Option Nat} (hg : W.grownBy W1 row) (hne : row ≠ some g) : Blk W1 g TR cs := (hg.block g h.lt (Ne.symm hne)).trans h
/-- A thing more of a kind: its row's value stored in the block. -/
theorem RepV.lights (h : RepV base W g TR sc val) (hb : Below W.heap.size W W1) (n : List Int) (v : Value) (hgr : W1.grownBy W2 (val .lights).ownBlock)
    (hr : W2.ownsRow base 76 6 v (sc.lights.length + 1) (sc.lights.flatMap fL ++ fL n)) (hat : v.ownBlock = (val .lights).ownBlock ∨ v.ownBlock = some W1.heap.size) :
    Blk W2 g TR (rcells sc val) ∧ RepV base (W2.setCell ⟨g, 19, none⟩ v) g TR { sc with lights := sc.lights ++ [n] } (upd val .lights v) := by
  have h1 := h.below hb
  have hB : Blk W2 g TR (rcells sc val) := h1.blk.kept hgr (h1.own.off .lights)
  refine ⟨hB, ?_, ?_, ?_, ?_, ?_, ?_, ?_, h.base_le⟩
  · have := hB.set 19 v
    have e : rcells { sc with lights := sc.lights ++ [n] } (upd val .lights v) = (rcells sc val).setIfInBounds 19 v := by
      simp [rcells, upd, camN, skyN]
    rw [e]; exact this
  · have h2 := h1.own.turn .lights ⟨false, 76, 6, v, sc.lights.length + 1, sc.lights.flatMap fL ++ fL n⟩ hgr hr (hat.elim .inl fun q => .inr (.inr ⟨_, q, Nat.le_refl _⟩)) h1.lt
    have h3 := h2.beside (gb_beside W2 g 19 v)
    have e : upd (rowsOf sc val) .lights ⟨false, 76, 6, v, sc.lights.length + 1, sc.lights.flatMap fL ++ fL n⟩ = rowsOf { sc with lights := sc.lights ++ [n] } (upd val .lights v) := by
      funext k
      cases k <;> simp [upd, rowsOf, texSS, cageSS, texAt, cageAt]
    rw [← e]; exact h3
  all_goals (intros; simp only [upd, reduceCtorEq, if_false])
  · exact h.nilT _ ‹_›
  · exact h.nilV _ ‹_›
  · exact h.nilF _ ‹_›
  · exact h.nilC _ ‹_›
  · exact h.nilR _ _ ‹_›
/-- A thing more of a kind: its row's value stored in the block. -/
theorem RepV.mats (h : RepV base W g TR sc val) (hb : Below W.heap.size W W1) (n : Wd × List Int) (v : Value) (hgr : W1.grownBy W2 (val .mats).ownBlock)
    (hr : W2.ownsRow base 53 9 v (sc.mats.length + 1) (sc.mats.flatMap fM ++ fM n)) (hat : v.ownBlock = (val .mats).ownBlock ∨ v.ownBlock = some W1.heap.size) :
    Blk W2 g TR (rcells sc val) ∧ RepV base (W2.setCell ⟨g, 20, none⟩ v) g TR { sc with mats := sc.mats ++ [n] } (upd val .mats v) := by
  have h1 := h.below hb
  have hB : Blk W2 g TR (rcells sc val) := h1.blk.kept hgr (h1.own.off .mats)
  refine ⟨hB, ?_, ?_, ?_, ?_, ?_, ?_, ?_, h.base_le⟩
  · have := hB.set 20 v
    have e : rcells { sc with mats := sc.mats ++ [n] } (upd val .mats v) = (rcells sc val).setIfInBounds 20 v := by
      simp [rcells, upd, camN, skyN]
    rw [e]; exact this
  · have h2 := h1.own.turn .mats ⟨false, 53, 9, v, sc.mats.length + 1, sc.mats.flatMap fM ++ fM n⟩ hgr hr (hat.elim .inl fun q => .inr (.inr ⟨_, q, Nat.le_refl _⟩)) h1.lt
    have h3 := h2.beside (gb_beside W2 g 20 v)
    have e : upd (rowsOf sc val) .mats ⟨false, 53, 9, v, sc.mats.length + 1, sc.mats.flatMap fM ++ fM n⟩ = rowsOf { sc with mats := sc.mats ++ [n] } (upd val .mats v) := by
      funext k
      cases k <;> simp [upd, rowsOf, texSS, cageSS, texAt, cageAt]
    rw [← e]; exact h3
  all_goals (intros; simp only [upd, reduceCtorEq, if_false])
  · exact h.nilT _ ‹_›
  · exact h.nilV _ ‹_›
  · exact h.nilF _ ‹_›
  · exact h.nilC _ ‹_›
  · exact h.nilR _ _ ‹_›
/-- A thing more of a kind: its row's value stored in the block. -/
theorem RepV.skins (h : RepV base W g TR sc val) (hb : Below W.heap.size W W1) (n : SkinM) (v : Value) (hgr : W1.grownBy W2 (val .skins).ownBlock)
    (hr : W2.ownsRow base 55 6 v (sc.skins.length + 1) (sc.skins.flatMap fS ++ fS n)) (hat : v.ownBlock = (val .skins).ownBlock ∨ v.ownBlock = some W1.heap.size) :
    Blk W2 g TR (rcells sc val) ∧ RepV base (W2.setCell ⟨g, 22, none⟩ v) g TR { sc with skins := sc.skins ++ [n] } (upd val .skins v) := by
  have h1 := h.below hb
  have hB : Blk W2 g TR (rcells sc val) := h1.blk.kept hgr (h1.own.off .skins)
  refine ⟨hB, ?_, ?_, ?_, ?_, ?_, ?_, ?_, h.base_le⟩
  · have := hB.set 22 v
    have e : rcells { sc with skins := sc.skins ++ [n] } (upd val .skins v) = (rcells sc val).setIfInBounds 22 v := by
      simp [rcells, upd, camN, skyN]
    rw [e]; exact this
  · have h2 := h1.own.turn .skins ⟨false, 55, 6, v, sc.skins.length + 1, sc.skins.flatMap fS ++ fS n⟩ hgr hr (hat.elim .inl fun q => .inr (.inr ⟨_, q, Nat.le_refl _⟩)) h1.lt
    have h3 := h2.beside (gb_beside W2 g 22 v)
    have e : upd (rowsOf sc val) .skins ⟨false, 55, 6, v, sc.skins.length + 1, sc.skins.flatMap fS ++ fS n⟩ = rowsOf { sc with skins := sc.skins ++ [n] } (upd val .skins v) := by
      funext k
      cases k <;> simp [upd, rowsOf, texSS, cageSS, texAt, cageAt]
    rw [← e]; exact h3
  all_goals (intros; simp only [upd, reduceCtorEq, if_false])
  · exact h.nilT _ ‹_›
  · exact h.nilV _ ‹_›
  · exact h.nilF _ ‹_›
  · exact h.nilC _ ‹_›
  · exact h.nilR _ _ ‹_›
theorem texSS_succ (sc : Scn) (val : Key → Value) (q : Wd × List Int) (t v : Value) : texSS { sc with texs := sc.texs ++ [q] } (upd (upd val (.tex sc.texs.length) t) .texs v) = texSS sc val ++ [(q, t)] := by
  unfold texSS
  simp only [List.length_append, List.length_cons, List.length_nil, List.range_succ, List.map_append, List.map_cons, List.map_nil]
  congr 1
  · refine List.map_congr_left fun i hi => ?_
    have hi : i < sc.texs.length := List.mem_range.1 hi
    have : i ≠ sc.texs.length := by omega
    simp [upd, texAt, List.getElem?_append_left hi, this]
  · simp [upd, texAt]
theorem getD_past {α : Type} {i : Nat} (l : List α) (d : α) (h : l.length ≤ i) : l.getD i d = d := by simp [List.getD, List.getElem?_eq_none h]
theorem texAt_app (sc : Scn) (q : Wd × List Int) (i : Nat) (h : i ≠ sc.texs.length) : texAt { sc with texs := sc.texs ++ [q] } i = texAt sc i := by
  unfold texAt
  rcases Nat.lt_or_ge i sc.texs.length with h1 | h1
  · simp [List.getElem?_append_left h1]
  · rw [getD_past _ _ (by simp; omega), getD_past _ _ h1]
theorem RepV.texs (h : RepV base W g TR sc val) (hb : Below W.heap.size W W1) (q : Wd × List Int) (t v : Value) (ht : roRow W1 W.heap.size 3 t (q.2.drop 2).length (i64s (q.2.drop 2))) (hgr : W1.grownBy W2 (val .texs).ownBlock)
    (hr : W2.ownsRow base 51 4 v (sc.texs.length + 1) ((texSS sc val).flatMap fT ++ fT (q, t))) (hat : v.ownBlock = (val .texs).ownBlock ∨ v.ownBlock = some W1.heap.size) :
    Blk W2 g TR (rcells sc val) ∧ RepV base (W2.setCell ⟨g, 21, none⟩ v) g TR { sc with texs := sc.texs ++ [q] } (upd (upd val (.tex sc.texs.length) t) .texs v) := by
  have hB : Blk W2 g TR (rcells sc val) := (h.below hb).blk.kept hgr ((h.below hb).own.off .texs)
  refine ⟨hB, ?_, ?_, ?_, ?_, ?_, ?_, ?_, h.base_le⟩
  · have := hB.set 21 v
    have e : rcells { sc with texs := sc.texs ++ [q] } (upd (upd val (.tex sc.texs.length) t) .texs v) = (rcells sc val).setIfInBounds 21 v := by
      simp [rcells, upd, camN, skyN]
    rw [e]; exact this
  · have h0 := h.own.take (.tex sc.texs.length) ⟨true, 3, 1, t, (q.2.drop 2).length, i64s (q.2.drop 2)⟩ hb ht (Nat.le_trans h.base_le (Nat.le_of_lt h.lt)) h.lt
    have h2 := h0.turn .texs ⟨false, 51, 4, v, sc.texs.length + 1, (texSS sc val).flatMap fT ++ fT (q, t)⟩ (by rw [upd_other _ _ (by simp)]; exact hgr) hr (by rw [upd_other _ _ (by simp)]; exact hat.elim .inl fun q => .inr (.inr ⟨_, q, Nat.le_refl _⟩)) (h.below hb).lt
    have h3 := h2.beside (gb_beside W2 g 21 v)
    have e : upd (upd (rowsOf sc val) (.tex sc.texs.length) ⟨true, 3, 1, t, (q.2.drop 2).length, i64s (q.2.drop 2)⟩) .texs ⟨false, 51, 4, v, sc.texs.length + 1, (texSS sc val).flatMap fT ++ fT (q, t)⟩ = rowsOf { sc with texs := sc.texs ++ [q] } (upd (upd val (.tex sc.texs.length) t) .texs v) := by
      funext k
      cases k with
      | texs => simp only [rowsOf, upd_same, texSS_succ]; simp
      | tex i =>
        by_cases hi : i = sc.texs.length
        · subst hi; simp [upd, rowsOf, texAt]
        · rw [upd_other _ _ (by simp), upd_other _ _ (by simpa using hi)]
          simp only [rowsOf, texAt_app sc q i hi]
          rw [upd_other _ _ (by simp), upd_other _ _ (by simpa using hi)]
      | _ => simp [upd, rowsOf, cageSS, cageAt]
    rw [← e]; exact h3
  · intro i hi
    have hi : sc.texs.length + 1 ≤ i := by simpa using hi
    rw [upd_other _ _ (by simp), upd_other _ _ (by simp; omega)]
    exact h.nilT i (by omega)
  all_goals (intros; simp only [upd, reduceCtorEq, if_false])
  · exact h.nilV _ ‹_›
  · exact h.nilF _ ‹_›
  · exact h.nilC _ ‹_›
  · exact h.nilR _ _ ‹_›
theorem cageSS_succ (n : Nat) (val : Key → Value) (v : Value) (h1 : val (.vert n) = vNil) (h2 : val (.face n) = vNil) (h3 : val (.crease n) = vNil) : cageSS (n + 1) (upd val .cages v) = cageSS n val ++ [(vNil, vNil, vNil)] := by
  unfold cageSS
  rw [List.range_succ, List.map_append]
  simp [upd, h1, h2, h3]
theorem cageAt_app (sc : Scn) (i : Nat) : cageAt { sc with cages := sc.cages ++ [⟨[], [], []⟩] } i = cageAt sc i := by
  unfold cageAt
  rcases Nat.lt_or_ge i sc.cages.length with h1 | h1
  · simp [List.getElem?_append_left h1]
  · rw [getD_past sc.cages _ h1]
    rcases Nat.lt_or_ge sc.cages.length i with h2 | h2
    · rw [getD_past _ _ (by simp; omega)]
    · have : i = sc.cages.length := by omega
      subst this
      simp
theorem RepV.cages (h : RepV base W g TR sc val) (hb : Below W.heap.size W W1) (v : Value) (hgr : W1.grownBy W2 (val .cages).ownBlock)
    (hr : W2.ownsRow base 48 3 v (sc.cages.length + 1) ((cageSS sc.cages.length val).flatMap fC ++ [vNil, vNil, vNil])) (hat : v.ownBlock = (val .cages).ownBlock ∨ v.ownBlock = some W1.heap.size) :
    Blk W2 g TR (rcells sc val) ∧ RepV base (W2.setCell ⟨g, 23, none⟩ v) g TR { sc with cages := sc.cages ++ [⟨[], [], []⟩] } (upd val .cages v) := by
  have h1 := h.below hb
  have hB : Blk W2 g TR (rcells sc val) := h1.blk.kept hgr (h1.own.off .cages)
  refine ⟨hB, ?_, ?_, ?_, ?_, ?_, ?_, ?_, h.base_le⟩
  · have := hB.set 23 v
    have e : rcells { sc with cages := sc.cages ++ [⟨[], [], []⟩] } (upd val .cages v) = (rcells sc val).setIfInBounds 23 v := by
      simp [rcells, upd, camN, skyN]
    rw [e]; exact this
  · have h2 := h1.own.turn .cages ⟨false, 48, 3, v, sc.cages.length + 1, (cageSS sc.cages.length val).flatMap fC ++ [vNil, vNil, vNil]⟩ hgr hr (hat.elim .inl fun q => .inr (.inr ⟨_, q, Nat.le_refl _⟩)) h1.lt
    have h3 := h2.beside (gb_beside W2 g 23 v)
    have e : upd (rowsOf sc val) .cages ⟨false, 48, 3, v, sc.cages.length + 1, (cageSS sc.cages.length val).flatMap fC ++ [vNil, vNil, vNil]⟩ = rowsOf { sc with cages := sc.cages ++ [⟨[], [], []⟩] } (upd val .cages v) := by
      funext k
      cases k with
      | cages =>
        simp only [rowsOf, upd_same, List.length_append, List.length_cons, List.length_nil, Nat.zero_add]
        rw [cageSS_succ _ _ _ (h.nilV _ (Nat.le_refl _)) (h.nilF _ (Nat.le_refl _)) (h.nilC _ (Nat.le_refl _)), List.flatMap_append]
        simp [fC]
      | _ => simp [upd, rowsOf, texSS, texAt, cageAt_app]
    rw [← e]; exact h3
  · intro i hi; simp only [upd, reduceCtorEq, if_false]; exact h.nilT _ hi
  · intro i hi; simp only [upd, reduceCtorEq, if_false]; exact h.nilV _ (by simp at hi; omega)
  · intro i hi; simp only [upd, reduceCtorEq, if_false]; exact h.nilF _ (by simp at hi; omega)
  · intro i hi; simp only [upd, reduceCtorEq, if_false]; exact h.nilC _ (by simp at hi; omega)
  · intro i j hj; simp only [upd, reduceCtorEq, if_false]; rw [cageAt_app] at hj; exact h.nilR _ _ hj
/-- The camera, and the sky. -/
theorem RepV.turnBlk (h : RepV base W g TR sc val) (hb : W.grownBy W1 (some g)) (sc' : Scn) (hB : Blk W1 g TR (rcells sc' val)) (e1 : sc'.lights = sc.lights) (e2 : sc'.mats = sc.mats) (e3 : sc'.texs = sc.texs) (e4 : sc'.skins = sc.skins) (e5 : sc'.cages = sc.cages) : RepV base W1 g TR sc' val := by
  obtain ⟨c, s, l, m, t, k, cg⟩ := sc'
  obtain ⟨c0, s0, l0, m0, t0, k0, cg0⟩ := sc
  simp only at e1 e2 e3 e4 e5
  subst e1 e2 e3 e4 e5
  refine ⟨hB, ?_, h.nilT, h.nilV, h.nilF, h.nilC, h.nilR, h.base_le⟩
  have := h.own.beside hb
  exact this
end
end Go.Proofs.YtdkgbdecmgligaaGreatDoor

/- A scene as a reader holds it: the last cage's vertices, faces, creases. -/
namespace Go.Proofs.YtdkgbdecmgligaaGreatDoor
open Go.RowKit
set_option linter.unusedVariables false
set_option linter.unusedSimpArgs false
section
variable {base g : Nat} {W W1 W2 W3 : World} {TR : TypeId} {sc : Scn} {val : Key → Value}
theorem getLast_snoc {α : Type} : ∀ (l : List α) (c : α), l.getLast? = some c → ∃ ys, l = ys ++ [c] := fun l c h => List.getLast?_eq_some_iff.1 h
theorem onLast_snoc (f : CageM → CageM) (ys : List CageM) (c : CageM) : onLast f (ys ++ [c]) = ys ++ [f c] := by simp [onLast]
theorem cageAt_last {i : Nat} (hi : i + 1 = sc.cages.length) {c : CageM} (hc : sc.cages.getLast? = some c) : cageAt sc i = c := by
  obtain ⟨ys, e⟩ := getLast_snoc _ _ hc
  have : i = ys.length := by rw [e] at hi; simpa using hi
  simp [cageAt, e, this]
theorem cageAt_onLast {i : Nat} (hi : i + 1 = sc.cages.length) (f : CageM → CageM) (j : Nat) : cageAt { sc with cages := onLast f sc.cages } j = if j = i then f (cageAt sc i) else cageAt sc j := by
  obtain ⟨ys, c, e⟩ : ∃ ys c, sc.cages = ys ++ [c] := by
    rcases List.eq_nil_or_concat sc.cages with h | ⟨ys, c, h⟩
    · rw [h] at hi; cases hi
    · exact ⟨ys, c, by rw [h]; simp⟩
  have hl : i = ys.length := by rw [e] at hi; simpa using hi
  unfold cageAt
  simp only [e, onLast_snoc]
  by_cases h : j = i
  · subst h; simp [hl]
  · rw [if_neg h]
    rcases Nat.lt_or_ge j ys.length with h1 | h1
    · simp [List.getElem?_append_left h1]
    · rw [getD_past _ _ (by simp; omega), getD_past _ _ (by simp; omega)]
theorem onLast_length {i : Nat} (hi : i + 1 = sc.cages.length) (f : CageM → CageM) : (onLast f sc.cages).length = sc.cages.length := by
  rcases List.eq_nil_or_concat sc.cages with h | ⟨ys, c, h⟩
  · rw [h] at hi; cases hi
  · rw [h, List.concat_eq_append, onLast_snoc]; simp
theorem cage_cells (i : Nat) (val : Key → Value) : (cageSS (i + 1) val).flatMap fC = (cageSS i val).flatMap fC ++ [val (.vert i), val (.face i), val (.crease i)] := by
  unfold cageSS
  rw [List.range_succ, List.map_append, List.flatMap_append]
  simp [fC]
theorem cage_cells_len (i : Nat) (val : Key → Value) : ((cageSS i val).flatMap fC).length = i * 3 := by
  rw [flat_len fC 3 (fun a => rfl)]
  unfold cageSS; simp
theorem cageSS_congr (i : Nat) (val val' : Key → Value) (h1 : ∀ j, j < i → val (.vert j) = val' (.vert j)) (h2 : ∀ j, j < i → val (.face j) = val' (.face j)) (h3 : ∀ j, j < i → val (.crease j) = val' (.crease j)) : cageSS i val = cageSS i val' := by
  unfold cageSS
  refine List.map_congr_left fun j hj => ?_
  have hj := List.mem_range.1 hj
  rw [h1 j hj, h2 j hj, h3 j hj]
theorem cells_vert {i : Nat} (hi : i + 1 = sc.cages.length) (n : List Int) (v : Value) : (cageSS sc.cages.length (upd val (.vert i) v)).flatMap fC = (((cageSS sc.cages.length val).flatMap fC).set (i * 3 + 0) v) := by
  rw [← hi, cage_cells, cage_cells, List.set_append_right _ _ (by rw [cage_cells_len]; omega), cage_cells_len, cageSS_congr i _ val]
  · congr 1
    rw [show i * 3 + 0 - i * 3 = 0 by omega]
    simp [upd]
  all_goals (intro j hj; have : j ≠ i := by omega
             simp [upd, this])
theorem RepV.vert_fin (h : RepV base W g TR sc val) {i : Nat} (hi : i + 1 = sc.cages.length) (n : List Int) (v : Value)
    (hO : Owns base W3 g (upd (upd (rowsOf sc val) (.vert i) ⟨false, 23, 3, v, (cageAt sc i).verts.length + 1, flat3 (cageAt sc i).verts ++ [Value.int .i64 (n.getD 0 0), Value.int .i64 (n.getD 1 0), Value.int .i64 (n.getD 2 0)]⟩) .cages ⟨false, 48, 3, val .cages, sc.cages.length, (((cageSS sc.cages.length val).flatMap fC).set (i * 3 + 0) v)⟩)) (hB : Blk W3 g TR (rcells sc val)) :
    RepV base W3 g TR { sc with cages := onLast (fun c => { c with verts := c.verts ++ [n] }) sc.cages } (upd val (.vert i) v) := by
  have hC := cageAt_onLast (sc := sc) hi (fun c => { c with verts := c.verts ++ [n] })
  have hL := onLast_length (sc := sc) hi (fun c => { c with verts := c.verts ++ [n] })
  refine ⟨?_, ?_, ?_, ?_, ?_, ?_, ?_, h.base_le⟩
  · have e : rcells { sc with cages := onLast (fun c => { c with verts := c.verts ++ [n] }) sc.cages } (upd val (.vert i) v) = rcells sc val := by simp [rcells, upd, camN, skyN]
    rw [e]; exact hB
  · have e : upd (upd (rowsOf sc val) (.vert i) ⟨false, 23, 3, v, (cageAt sc i).verts.length + 1, flat3 (cageAt sc i).verts ++ [Value.int .i64 (n.getD 0 0), Value.int .i64 (n.getD 1 0), Value.int .i64 (n.getD 2 0)]⟩) .cages ⟨false, 48, 3, val .cages, sc.cages.length, (((cageSS sc.cages.length val).flatMap fC).set (i * 3 + 0) v)⟩ = rowsOf { sc with cages := onLast (fun c => { c with verts := c.verts ++ [n] }) sc.cages } (upd val (.vert i) v) := by
      funext x
      cases x with
    | cages =>
      rw [upd_same]
      simp only [rowsOf, hL]
      rw [cells_vert hi n v]
      simp [upd]
    | vert j =>
      by_cases hj : j = i
      · subst hj
        rw [upd_other _ _ (by simp), upd_same]
        simp only [rowsOf, hC, if_true, upd_same]
        congr 1
        · simp
        · simp [flat3]
      · rw [upd_other _ _ (by simp), upd_other _ _ (by simpa using hj)]
        simp [rowsOf, hC, hj, upd]
    | face j => by_cases hj : j = i <;> simp [upd, rowsOf, hC, hj]
    | crease j => by_cases hj : j = i <;> simp [upd, rowsOf, hC, hj]
    | frow j q => by_cases hj : j = i <;> simp [upd, rowsOf, hC, hj]
    | tex j => simp [upd, rowsOf, texAt]
    | texs => simp [upd, rowsOf, texSS, texAt]
    | lights => simp [upd, rowsOf]
    | mats => simp [upd, rowsOf]
    | skins => simp [upd, rowsOf]
    rw [← e]; exact hO
  · intro j hj; simp only [upd, reduceCtorEq, if_false]; exact h.nilT j hj
  · intro j hj
    rw [hL] at hj
    have : j ≠ i := by omega
    simp only [upd, reduceCtorEq, if_false, Key.vert.injEq, this]; exact h.nilV j hj
  · intro j hj
    rw [hL] at hj
    have : j ≠ i := by omega
    simp only [upd, reduceCtorEq, if_false, Key.vert.injEq, this]; exact h.nilF j hj
  · intro j hj
    rw [hL] at hj
    have : j ≠ i := by omega
    simp only [upd, reduceCtorEq, if_false, Key.vert.injEq, this]; exact h.nilC j hj
  · intro j q hq
    have hq : (cageAt sc j).faces.length ≤ q := by
      rw [hC] at hq
      by_cases hj : j = i
      · subst hj; simpa using hq
      · rw [if_neg hj] at hq; exact hq
    simp only [upd, reduceCtorEq, if_false]
    exact h.nilR j q hq
theorem RepV.vert_own (h : RepV base W g TR sc val) (hb : Below W.heap.size W W1) {i : Nat} (n : List Int) (v : Value) (hgr : W1.grownBy W2 (val (.vert i)).ownBlock)
    (hr : W2.ownsRow base 23 3 v ((cageAt sc i).verts.length + 1) (flat3 (cageAt sc i).verts ++ [Value.int .i64 (n.getD 0 0), Value.int .i64 (n.getD 1 0), Value.int .i64 (n.getD 2 0)])) (hat : v.ownBlock = (val (.vert i)).ownBlock ∨ v.ownBlock = some W1.heap.size) :
    Owns base W2 g (upd (rowsOf sc val) (.vert i) ⟨false, 23, 3, v, (cageAt sc i).verts.length + 1, flat3 (cageAt sc i).verts ++ [Value.int .i64 (n.getD 0 0), Value.int .i64 (n.getD 1 0), Value.int .i64 (n.getD 2 0)]⟩) ∧ Blk W2 g TR (rcells sc val) := by
  have h0 := h.own.below hb
  exact ⟨h0.turn (.vert i) ⟨false, 23, 3, v, (cageAt sc i).verts.length + 1, flat3 (cageAt sc i).verts ++ [Value.int .i64 (n.getD 0 0), Value.int .i64 (n.getD 1 0), Value.int .i64 (n.getD 2 0)]⟩ hgr hr (hat.elim .inl fun q => .inr (.inr ⟨_, q, Nat.le_refl _⟩)) (h.below hb).lt, (h.below hb).blk.kept hgr (h.own.off (.vert i))⟩
/-- The program's: one cell of the cage is stored. -/
theorem RepV.vert (h : RepV base W g TR sc val) (hb : Below W.heap.size W W1) {i : Nat} (hi : i + 1 = sc.cages.length) {b cap : Nat} (hv : val .cages = .slice (some ⟨b, 0, none⟩) sc.cages.length cap) (n : List Int) (v : Value) (hgr : W1.grownBy W2 (val (.vert i)).ownBlock)
    (hr : W2.ownsRow base 23 3 v ((cageAt sc i).verts.length + 1) (flat3 (cageAt sc i).verts ++ [Value.int .i64 (n.getD 0 0), Value.int .i64 (n.getD 1 0), Value.int .i64 (n.getD 2 0)])) (hat : v.ownBlock = (val (.vert i)).ownBlock ∨ v.ownBlock = some W1.heap.size) :
    (W2.ownsRow base 48 3 (.slice (some ⟨b, 0, none⟩) sc.cages.length cap) sc.cages.length ((cageSS sc.cages.length val).flatMap fC)) ∧ RepV base (W2.setCell ⟨b, i * 3 + 0, none⟩ v) g TR { sc with cages := onLast (fun c => { c with verts := c.verts ++ [n] }) sc.cages } (upd val (.vert i) v) := by
  obtain ⟨h2, hB⟩ := h.vert_own hb n v hgr hr hat
  have hk : upd (rowsOf sc val) (.vert i) ⟨false, 23, 3, v, (cageAt sc i).verts.length + 1, flat3 (cageAt sc i).verts ++ [Value.int .i64 (n.getD 0 0), Value.int .i64 (n.getD 1 0), Value.int .i64 (n.getD 2 0)]⟩ .cages = ⟨false, 48, 3, .slice (some ⟨b, 0, none⟩) sc.cages.length cap, sc.cages.length, (cageSS sc.cages.length val).flatMap fC⟩ := by
    rw [← hv]; simp [upd, rowsOf]
  have h3 := h2.store .cages hk hB.lt (i * 3 + 0) v
  have hrow := h2.row .cages
  rw [hk] at hrow
  refine ⟨hrow, h.vert_fin hi n v ?_ ?_⟩
  · rw [hv]; exact h3
  · refine hB.far _ _ ?_
    have := h2.off .cages
    rw [hk] at this
    intro e
    exact this (by simp [Value.ownBlock, e])
theorem cells_face {i : Nat} (hi : i + 1 = sc.cages.length) (t : Value) (n : List Int) (v : Value) : (cageSS sc.cages.length (upd (upd val (.frow i (cageAt sc i).faces.length) t) (.face i) v)).flatMap fC = (((cageSS sc.cages.length val).flatMap fC).set (i * 3 + 1) v) := by
  rw [← hi, cage_cells, cage_cells, List.set_append_right _ _ (by rw [cage_cells_len]; omega), cage_cells_len, cageSS_congr i _ val]
  · congr 1
    rw [show i * 3 + 1 - i * 3 = 1 by omega]
    simp [upd]
  all_goals (intro j hj; have : j ≠ i := by omega
             simp [upd, this])
theorem RepV.face_fin (h : RepV base W g TR sc val) {i : Nat} (hi : i + 1 = sc.cages.length) (t : Value) (n : List Int) (v : Value)
    (hO : Owns base W3 g (upd (upd (upd (rowsOf sc val) (.frow i (cageAt sc i).faces.length) ⟨true, 3, 1, t, n.length, i64s n⟩) (.face i) ⟨false, 49, 1, v, (cageAt sc i).faces.length + 1, ((List.range (cageAt sc i).faces.length).map fun j => val (.frow i j)) ++ [t]⟩) .cages ⟨false, 48, 3, val .cages, sc.cages.length, (((cageSS sc.cages.length val).flatMap fC).set (i * 3 + 1) v)⟩)) (hB : Blk W3 g TR (rcells sc val)) :
    RepV base W3 g TR { sc with cages := onLast (fun c => { c with faces := c.faces ++ [n] }) sc.cages } (upd (upd val (.frow i (cageAt sc i).faces.length) t) (.face i) v) := by
  have hC := cageAt_onLast (sc := sc) hi (fun c => { c with faces := c.faces ++ [n] })
  have hL := onLast_length (sc := sc) hi (fun c => { c with faces := c.faces ++ [n] })
  refine ⟨?_, ?_, ?_, ?_, ?_, ?_, ?_, h.base_le⟩
  · have e : rcells { sc with cages := onLast (fun c => { c with faces := c.faces ++ [n] }) sc.cages } (upd (upd val (.frow i (cageAt sc i).faces.length) t) (.face i) v) = rcells sc val := by simp [rcells, upd, camN, skyN]
    rw [e]; exact hB
  · have e : upd (upd (upd (rowsOf sc val) (.frow i (cageAt sc i).faces.length) ⟨true, 3, 1, t, n.length, i64s n⟩) (.face i) ⟨false, 49, 1, v, (cageAt sc i).faces.length + 1, ((List.range (cageAt sc i).faces.length).map fun j => val (.frow i j)) ++ [t]⟩) .cages ⟨false, 48, 3, val .cages, sc.cages.length, (((cageSS sc.cages.length val).flatMap fC).set (i * 3 + 1) v)⟩ = rowsOf { sc with cages := onLast (fun c => { c with faces := c.faces ++ [n] }) sc.cages } (upd (upd val (.frow i (cageAt sc i).faces.length) t) (.face i) v) := by
      funext x
      cases x with
    | cages =>
      rw [upd_same]
      simp only [rowsOf, hL]
      rw [cells_face hi t n v]
      simp [upd]
    | face j =>
      by_cases hj : j = i
      · subst hj
        simp only [rowsOf, hC, if_true]
        rw [upd_other _ _ (by simp), upd_same, upd_same]
        simp only [List.length_append, List.length_cons, List.length_nil, Nat.zero_add, List.range_succ, List.map_append, List.map_cons, List.map_nil]
        congr 2
        · refine List.map_congr_left fun q hq => ?_
          have hq : q < (cageAt sc j).faces.length := List.mem_range.1 hq
          have hne : q ≠ (cageAt sc j).faces.length := by omega
          simp [upd, hne]
        · simp [upd]
      · rw [upd_other _ _ (by simp), upd_other _ _ (by simpa using hj), upd_other _ _ (by simp)]
        simp [rowsOf, hC, hj, upd]
    | frow j q =>
      by_cases hj : j = i
      · subst hj
        by_cases hq : q = (cageAt sc j).faces.length
        · subst hq
          rw [upd_other _ _ (by simp), upd_other _ _ (by simp), upd_same]
          simp [rowsOf, hC, upd]
        · rw [upd_other _ _ (by simp), upd_other _ _ (by simp), upd_other _ _ (by simpa using hq)]
          have e : ((cageAt sc j).faces ++ [n]).getD q [] = (cageAt sc j).faces.getD q [] := by
            rcases Nat.lt_or_ge q (cageAt sc j).faces.length with h1 | h1
            · simp [List.getElem?_append_left h1]
            · rw [getD_past _ _ (by simp; omega), getD_past _ _ h1]
          simp only [rowsOf, hC, if_true, e]
          rw [upd_other _ _ (by simp), upd_other _ _ (by simpa using hq)]
      · rw [upd_other _ _ (by simp), upd_other _ _ (by simp), upd_other _ _ (by simp [hj])]
        simp [rowsOf, hC, hj, upd]
    | vert j => by_cases hj : j = i <;> simp [upd, rowsOf, hC, hj]
    | crease j => by_cases hj : j = i <;> simp [upd, rowsOf, hC, hj]
    | tex j => simp [upd, rowsOf, texAt]
    | texs => simp [upd, rowsOf, texSS, texAt]
    | lights => simp [upd, rowsOf]
    | mats => simp [upd, rowsOf]
    | skins => simp [upd, rowsOf]
    rw [← e]; exact hO
  · intro j hj; simp only [upd, reduceCtorEq, if_false]; exact h.nilT j hj
  · intro j hj
    rw [hL] at hj
    have : j ≠ i := by omega
    simp only [upd, reduceCtorEq, if_false, Key.face.injEq, this]; exact h.nilV j hj
  · intro j hj
    rw [hL] at hj
    have : j ≠ i := by omega
    simp only [upd, reduceCtorEq, if_false, Key.face.injEq, this]; exact h.nilF j hj
  · intro j hj
    rw [hL] at hj
    have : j ≠ i := by omega
    simp only [upd, reduceCtorEq, if_false, Key.face.injEq, this]; exact h.nilC j hj
  · intro j q hq
    rw [hC] at hq
    by_cases hj : j = i
    · subst hj
      simp only [if_true, List.length_append, List.length_cons, List.length_nil] at hq
      have : q ≠ (cageAt sc j).faces.length := by omega
      simp only [upd, reduceCtorEq, if_false, Key.frow.injEq, true_and, this]
      exact h.nilR j q (by omega)
    · rw [if_neg hj] at hq
      simp only [upd, reduceCtorEq, if_false, Key.frow.injEq, hj, false_and]
      exact h.nilR j q hq
theorem RepV.face_own (h : RepV base W g TR sc val) (hb : Below W.heap.size W W1) {i : Nat} (t : Value) (n : List Int) (v : Value) (ht : roRow W1 W.heap.size 3 t n.length (i64s n)) (hgr : W1.grownBy W2 (val (.face i)).ownBlock)
    (hr : W2.ownsRow base 49 1 v ((cageAt sc i).faces.length + 1) (((List.range (cageAt sc i).faces.length).map fun j => val (.frow i j)) ++ [t])) (hat : v.ownBlock = (val (.face i)).ownBlock ∨ v.ownBlock = some W1.heap.size) :
    Owns base W2 g (upd (upd (rowsOf sc val) (.frow i (cageAt sc i).faces.length) ⟨true, 3, 1, t, n.length, i64s n⟩) (.face i) ⟨false, 49, 1, v, (cageAt sc i).faces.length + 1, ((List.range (cageAt sc i).faces.length).map fun j => val (.frow i j)) ++ [t]⟩) ∧ Blk W2 g TR (rcells sc val) := by
  have h0 := h.own.take (.frow i (cageAt sc i).faces.length) ⟨true, 3, 1, t, n.length, i64s n⟩ hb ht (Nat.le_trans h.base_le (Nat.le_of_lt h.lt)) h.lt
  exact ⟨h0.turn (.face i) ⟨false, 49, 1, v, (cageAt sc i).faces.length + 1, ((List.range (cageAt sc i).faces.length).map fun j => val (.frow i j)) ++ [t]⟩ (by rw [upd_other _ _ (by simp)]; exact hgr) hr (by rw [upd_other _ _ (by simp)]; exact hat.elim .inl fun q => .inr (.inr ⟨_, q, Nat.le_refl _⟩)) (h.below hb).lt, (h.below hb).blk.kept hgr (h.own.off (.face i))⟩
/-- The program's: one cell of the cage is stored. -/
theorem RepV.face (h : RepV base W g TR sc val) (hb : Below W.heap.size W W1) {i : Nat} (hi : i + 1 = sc.cages.length) {b cap : Nat} (hv : val .cages = .slice (some ⟨b, 0, none⟩) sc.cages.length cap) (t : Value) (n : List Int) (v : Value) (ht : roRow W1 W.heap.size 3 t n.length (i64s n)) (hgr : W1.grownBy W2 (val (.face i)).ownBlock)
    (hr : W2.ownsRow base 49 1 v ((cageAt sc i).faces.length + 1) (((List.range (cageAt sc i).faces.length).map fun j => val (.frow i j)) ++ [t])) (hat : v.ownBlock = (val (.face i)).ownBlock ∨ v.ownBlock = some W1.heap.size) :
    (W2.ownsRow base 48 3 (.slice (some ⟨b, 0, none⟩) sc.cages.length cap) sc.cages.length ((cageSS sc.cages.length val).flatMap fC)) ∧ RepV base (W2.setCell ⟨b, i * 3 + 1, none⟩ v) g TR { sc with cages := onLast (fun c => { c with faces := c.faces ++ [n] }) sc.cages } (upd (upd val (.frow i (cageAt sc i).faces.length) t) (.face i) v) := by
  obtain ⟨h2, hB⟩ := h.face_own hb t n v ht hgr hr hat
  have hk : upd (upd (rowsOf sc val) (.frow i (cageAt sc i).faces.length) ⟨true, 3, 1, t, n.length, i64s n⟩) (.face i) ⟨false, 49, 1, v, (cageAt sc i).faces.length + 1, ((List.range (cageAt sc i).faces.length).map fun j => val (.frow i j)) ++ [t]⟩ .cages = ⟨false, 48, 3, .slice (some ⟨b, 0, none⟩) sc.cages.length cap, sc.cages.length, (cageSS sc.cages.length val).flatMap fC⟩ := by
    rw [← hv]; simp [upd, rowsOf]
  have h3 := h2.store .cages hk hB.lt (i * 3 + 1) v
  have hrow := h2.row .cages
  rw [hk] at hrow
  refine ⟨hrow, h.face_fin hi t n v ?_ ?_⟩
  · rw [hv]; exact h3
  · refine hB.far _ _ ?_
    have := h2.off .cages
    rw [hk] at this
    intro e
    exact this (by simp [Value.ownBlock, e])
theorem cells_crease {i : Nat} (hi : i + 1 = sc.cages.length) (n : List Int) (v : Value) : (cageSS sc.cages.length (upd val (.crease i) v)).flatMap fC = (((cageSS sc.cages.length val).flatMap fC).set (i * 3 + 2) v) := by
  rw [← hi, cage_cells, cage_cells, List.set_append_right _ _ (by rw [cage_cells_len]; omega), cage_cells_len, cageSS_congr i _ val]
  · congr 1
    rw [show i * 3 + 2 - i * 3 = 2 by omega]
    simp [upd]
  all_goals (intro j hj; have : j ≠ i := by omega
             simp [upd, this])
theorem RepV.crease_fin (h : RepV base W g TR sc val) {i : Nat} (hi : i + 1 = sc.cages.length) (n : List Int) (v : Value)
    (hO : Owns base W3 g (upd (upd (rowsOf sc val) (.crease i) ⟨false, 98, 3, v, (cageAt sc i).creases.length + 1, flat3 (cageAt sc i).creases ++ [Value.int .i64 (n.getD 0 0), Value.int .i64 (n.getD 1 0), Value.int .i64 (n.getD 2 0)]⟩) .cages ⟨false, 48, 3, val .cages, sc.cages.length, (((cageSS sc.cages.length val).flatMap fC).set (i * 3 + 2) v)⟩)) (hB : Blk W3 g TR (rcells sc val)) :
    RepV base W3 g TR { sc with cages := onLast (fun c => { c with creases := c.creases ++ [n] }) sc.cages } (upd val (.crease i) v) := by
  have hC := cageAt_onLast (sc := sc) hi (fun c => { c with creases := c.creases ++ [n] })
  have hL := onLast_length (sc := sc) hi (fun c => { c with creases := c.creases ++ [n] })
  refine ⟨?_, ?_, ?_, ?_, ?_, ?_, ?_, h.base_le⟩
  · have e : rcells { sc with cages := onLast (fun c => { c with creases := c.creases ++ [n] }) sc.cages } (upd val (.crease i) v) = rcells sc val := by simp [rcells, upd, camN, skyN]
    rw [e]; exact hB
  · have e : upd (upd (rowsOf sc val) (.crease i) ⟨false, 98, 3, v, (cageAt sc i).creases.length + 1, flat3 (cageAt sc i).creases ++ [Value.int .i64 (n.getD 0 0), Value.int .i64 (n.getD 1 0), Value.int .i64 (n.getD 2 0)]⟩) .cages ⟨false, 48, 3, val .cages, sc.cages.length, (((cageSS sc.cages.length val).flatMap fC).set (i * 3 + 2) v)⟩ = rowsOf { sc with cages := onLast (fun c => { c with creases := c.creases ++ [n] }) sc.cages } (upd val (.crease i) v) := by
      funext x
      cases x with
    | cages =>
      rw [upd_same]
      simp only [rowsOf, hL]
      rw [cells_crease hi n v]
      simp [upd]
    | crease j =>
      by_cases hj : j = i
      · subst hj
        rw [upd_other _ _ (by simp), upd_same]
        simp only [rowsOf, hC, if_true, upd_same]
        congr 1
        · simp
        · simp [flat3]
      · rw [upd_other _ _ (by simp), upd_other _ _ (by simpa using hj)]
        simp [rowsOf, hC, hj, upd]
    | vert j => by_cases hj : j = i <;> simp [upd, rowsOf, hC, hj]
    | face j => by_cases hj : j = i <;> simp [upd, rowsOf, hC, hj]
    | frow j q => by_cases hj : j = i <;> simp [upd, rowsOf, hC, hj]
    | tex j => simp [upd, rowsOf, texAt]
    | texs => simp [upd, rowsOf, texSS, texAt]
    | lights => simp [upd, rowsOf]
    | mats => simp [upd, rowsOf]
    | skins => simp [upd, rowsOf]
    rw [← e]; exact hO
  · intro j hj; simp only [upd, reduceCtorEq, if_false]; exact h.nilT j hj
  · intro j hj
    rw [hL] at hj
    have : j ≠ i := by omega
    simp only [upd, reduceCtorEq, if_false, Key.crease.injEq, this]; exact h.nilV j hj
  · intro j hj
    rw [hL] at hj
    have : j ≠ i := by omega
    simp only [upd, reduceCtorEq, if_false, Key.crease.injEq, this]; exact h.nilF j hj
  · intro j hj
    rw [hL] at hj
    have : j ≠ i := by omega
    simp only [upd, reduceCtorEq, if_false, Key.crease.injEq, this]; exact h.nilC j hj
  · intro j q hq
    have hq : (cageAt sc j).faces.length ≤ q := by
      rw [hC] at hq
      by_cases hj : j = i
      · subst hj; simpa using hq
      · rw [if_neg hj] at hq; exact hq
    simp only [upd, reduceCtorEq, if_false]
    exact h.nilR j q hq
theorem RepV.crease_own (h : RepV base W g TR sc val) (hb : Below W.heap.size W W1) {i : Nat} (n : List Int) (v : Value) (hgr : W1.grownBy W2 (val (.crease i)).ownBlock)
    (hr : W2.ownsRow base 98 3 v ((cageAt sc i).creases.length + 1) (flat3 (cageAt sc i).creases ++ [Value.int .i64 (n.getD 0 0), Value.int .i64 (n.getD 1 0), Value.int .i64 (n.getD 2 0)])) (hat : v.ownBlock = (val (.crease i)).ownBlock ∨ v.ownBlock = some W1.heap.size) :
    Owns base W2 g (upd (rowsOf sc val) (.crease i) ⟨false, 98, 3, v, (cageAt sc i).creases.length + 1, flat3 (cageAt sc i).creases ++ [Value.int .i64 (n.getD 0 0), Value.int .i64 (n.getD 1 0), Value.int .i64 (n.getD 2 0)]⟩) ∧ Blk W2 g TR (rcells sc val) := by
  have h0 := h.own.below hb
  exact ⟨h0.turn (.crease i) ⟨false, 98, 3, v, (cageAt sc i).creases.length + 1, flat3 (cageAt sc i).creases ++ [Value.int .i64 (n.getD 0 0), Value.int .i64 (n.getD 1 0), Value.int .i64 (n.getD 2 0)]⟩ hgr hr (hat.elim .inl fun q => .inr (.inr ⟨_, q, Nat.le_refl _⟩)) (h.below hb).lt, (h.below hb).blk.kept hgr (h.own.off (.crease i))⟩
/-- The program's: one cell of the cage is stored. -/
theorem RepV.crease (h : RepV base W g TR sc val) (hb : Below W.heap.size W W1) {i : Nat} (hi : i + 1 = sc.cages.length) {b cap : Nat} (hv : val .cages = .slice (some ⟨b, 0, none⟩) sc.cages.length cap) (n : List Int) (v : Value) (hgr : W1.grownBy W2 (val (.crease i)).ownBlock)
    (hr : W2.ownsRow base 98 3 v ((cageAt sc i).creases.length + 1) (flat3 (cageAt sc i).creases ++ [Value.int .i64 (n.getD 0 0), Value.int .i64 (n.getD 1 0), Value.int .i64 (n.getD 2 0)])) (hat : v.ownBlock = (val (.crease i)).ownBlock ∨ v.ownBlock = some W1.heap.size) :
    (W2.ownsRow base 48 3 (.slice (some ⟨b, 0, none⟩) sc.cages.length cap) sc.cages.length ((cageSS sc.cages.length val).flatMap fC)) ∧ RepV base (W2.setCell ⟨b, i * 3 + 2, none⟩ v) g TR { sc with cages := onLast (fun c => { c with creases := c.creases ++ [n] }) sc.cages } (upd val (.crease i) v) := by
  obtain ⟨h2, hB⟩ := h.crease_own hb n v hgr hr hat
  have hk : upd (rowsOf sc val) (.crease i) ⟨false, 98, 3, v, (cageAt sc i).creases.length + 1, flat3 (cageAt sc i).creases ++ [Value.int .i64 (n.getD 0 0), Value.int .i64 (n.getD 1 0), Value.int .i64 (n.getD 2 0)]⟩ .cages = ⟨false, 48, 3, .slice (some ⟨b, 0, none⟩) sc.cages.length cap, sc.cages.length, (cageSS sc.cages.length val).flatMap fC⟩ := by
    rw [← hv]; simp [upd, rowsOf]
  have h3 := h2.store .cages hk hB.lt (i * 3 + 2) v
  have hrow := h2.row .cages
  rw [hk] at hrow
  refine ⟨hrow, h.crease_fin hi n v ?_ ?_⟩
  · rw [hv]; exact h3
  · refine hB.far _ _ ?_
    have := h2.off .cages
    rw [hk] at this
    intro e
    exact this (by simp [Value.ownBlock, e])
end
end Go.Proofs.YtdkgbdecmgligaaGreatDoor
