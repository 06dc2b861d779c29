/- The program's own scene: what a line's reading comes to. -/
import Derived.Test.YtdkgbdecmgligaaGreatDoorMScnP
import Derived.Test.YtdkgbdecmgligaaGreatDoorMScnR
import Derived.Test.YtdkgbdecmgligaaGreatDoorMRegion
namespace Go.Proofs.YtdkgbdecmgligaaGreatDoor
open Go.RowKit
set_option linter.unusedVariables false
set_option linter.unusedSimpArgs false
set_option linter.unnecessarySimpa false

abbrev panE (k : Nat) : Ending := Ending.panicked [{ v := Value.iface 37 (.int .i64 (k : Int)), recovered := false }]
/-- What lay below, and each error's variable, is as it was. -/
def Fr (g : Nat) (TR : TypeId) (W W' : World) : Prop := Below g W W' ∧ (TR ≠ 37 → ∀ (j : Nat) (cs : Array Value), W.heap[j]? = some (.cells cs 37 (0, 0)) → W'.heap[j]? = W.heap[j]?)
theorem fr_of_below {g : Nat} {TR : TypeId} {W W' : World} (hg : g < W.heap.size) (hb : Below W.heap.size W W') : Fr g TR W W' :=
  ⟨hb.mono (Nat.le_of_lt hg), fun _ j cs h => hb.block j (Array.getElem?_eq_some_iff.1 h).1⟩
theorem own_typed {W : World} {base : Nat} {T : TypeId} {sz n : Nat} {v : Value} {xs : List Value} (h : W.ownsRow base T sz v n xs) : ∀ k, v.ownBlock = some k → base ≤ k ∧ ∃ cur, W.heap[k]? = some (.cells cur T (0, 0)) := by
  intro k hk
  rcases h.2 with ⟨q, _⟩ | ⟨b, cap, cur, q1, q2, q3, _⟩
  · rw [q] at hk; cases hk
  · rw [q1] at hk
    cases hk
    exact ⟨q2, cur, q3⟩
/-- A line is taken in, or an error is told. -/
def lineP (g : Nat) (TR : TypeId) (W : World) (r : Except Nat Scn) (e : Ending) (W' : World) : Prop :=
  Fr g TR W W' ∧ (match r with
    | .error k => e = panE k ∧ Below W.heap.size W W'
    | .ok sc' => e = .returned (.tuple #[]) ∧ ∃ val', RepV g W' g TR sc' val')
theorem lineP_err {g : Nat} {TR : TypeId} {W W' : World} {r : Except Nat Scn} (k : Nat) (hg : g < W.heap.size) (hb : Below W.heap.size W W') (hr : r = .error k) : lineP g TR W r (panE k) W' := by
  subst hr; exact ⟨fr_of_below hg hb, rfl, hb⟩
theorem lineP_ok {g : Nat} {TR : TypeId} {W W' : World} {r : Except Nat Scn} {sc' : Scn} (hr : r = .ok sc') (hb : Fr g TR W W') {val' : Key → Value} (h : RepV g W' g TR sc' val') : lineP g TR W r (.returned (.tuple #[])) W' := by
  subst hr; exact ⟨hb, rfl, val', h⟩
theorem pnums_or {w : World} {l : List Wd} {e : Ending} {w' : World} (h : pnumsPost w l e w') {n : Nat} (hn : l.length = n) : (numsF l = none ∧ e = Ending.panicked [{ v := Value.iface 37 (.int .i64 10), recovered := false }] ∧ ∃ x, w' = grow w x) ∨ (∃ ns b x, numsF l = some ns ∧ Hid (ns.length = n) ∧ e = .returned (.slice (some ⟨b, 0, none⟩) n n) ∧ w' = grow w x ∧ Hid (w'.ownsRow w.heap.size 3 1 (.slice (some ⟨b, 0, none⟩) n n) n (i64s ns))) := by
  obtain ⟨hb, h⟩ := h
  obtain ⟨x, rfl⟩ := grow_of hb
  cases hN : numsF l with
  | none => rw [hN] at h; exact .inl ⟨rfl, h, x, rfl⟩
  | some ns =>
    rw [hN] at h
    obtain ⟨b, he, ho⟩ := h
    have hL : ns.length = n := (numsF_len _ _ hN).trans hn
    rw [hL] at he ho
    exact .inr ⟨ns, b, x, rfl, Lib.hid hL, he, rfl, Lib.hid ho⟩
theorem pnums_or2 {w : World} {l : List Wd} {e : Ending} {w' : World} (h : pnumsPost w l e w') {n : Nat} (hn : l.length = n) : (numsF l = none ∧ e = Ending.panicked [{ v := Value.iface 37 (.int .i64 10), recovered := false }] ∧ ∃ x, w' = grow w x) ∨ (∃ ns b, numsF l = some ns ∧ Hid (ns.length = n) ∧ e = .returned (.slice (some ⟨b, 0, none⟩) n n) ∧ Hid (Below w.heap.size w w') ∧ Hid (w'.ownsRow w.heap.size 3 1 (.slice (some ⟨b, 0, none⟩) n n) n (i64s ns))) := by
  have hb := h.1
  rcases pnums_or h hn with h | ⟨ns, b, x, h1, h2, h3, h4, h5⟩
  · exact .inl h
  · exact .inr ⟨ns, b, h1, h2, h3, Lib.hid hb, h5⟩
theorem below_gb {g : Nat} {W W' : World} {row : Option Nat} (h : W.grownBy W' row) (hr : ∀ k, row = some k → g ≤ k) (hg : g ≤ W.heap.size) : Below g W W' :=
  ⟨h.os, h.tape, h.output, h.size, fun k hk => h.block k (by omega) (fun e => by have := hr k e.symm; omega)⟩
theorem inB_all {ns : List Int} {m : Nat} (h : ns.length = m) {lo hi : Int} : inB lo hi ns = wi ns 0 m lo hi := by
  rw [← inB_wi, ← h, List.take_length]; rfl
theorem IF.subE {W : World} {b off : Nat} {ns : List Int} (h : IF W (some ⟨b, off, none⟩) ns) (a e off' : Nat) (he : e ≤ ns.length) (ho : off' = off + a) : IF W (some ⟨b, off', none⟩) ((ns.take e).drop a) := by
  subst ho; exact h.sub a e he
theorem len_big {n : Nat} (hl : n ≤ 65537) : n ≤ 1048576 := by omega
theorem fr_gb {g : Nat} {TR : TypeId} {W W' : World} {cs : Array Value} (h : W.grownBy W' (some g)) (hB : Blk W g TR cs) : Fr g TR W W' := by
  refine ⟨below_gb h (fun k e => by cases e; exact Nat.le_refl _) (Nat.le_of_lt hB.lt), fun ht j c hj => h.block j (Array.getElem?_eq_some_iff.1 hj).1 (fun e => ?_)⟩
  cases e
  have := hj.symm.trans hB
  injection this with this
  injection this with _ q
  exact ht q.symm
/-- A row is appended to, then a cell of the block or of a row is stored. -/
theorem fr_app {g : Nat} {TR T : TypeId} {W V W1 W2 : World} {row : Option Nat} (h1 : Below W.heap.size W V) (hg : g < W.heap.size) (hgr : W1.grownBy W2 row) (ho : ∀ k, row = some k → g ≤ k ∧ ∃ cur, V.heap[k]? = some (.cells cur T (0, 0))) (hT : T ≠ 37)
    {b : Nat} {T' : TypeId} {cb : Array Value} (hb : g ≤ b) (hbt : Blk V b T' cb) (hT' : TR ≠ 37 → T' ≠ 37) (i : Nat) (u : Value) (h2 : Below V.heap.size V W1) : Fr g TR W (W2.setCell ⟨b, i, none⟩ u) := by
  have a : Below g W W1 := (bel_trans h1 h2).mono (Nat.le_of_lt hg)
  have s := a.size
  have c : Below g W1 W2 := below_gb hgr (fun k e => (ho k e).1) (by omega)
  refine ⟨(a.trans c).setCell hb u, fun ht j cs hj => ?_⟩
  have hjl := (Array.getElem?_eq_some_iff.1 hj).1
  have hjV : V.heap[j]? = some (.cells cs 37 (0, 0)) := (h1.block j hjl).trans hj
  have hjVl := (Array.getElem?_eq_some_iff.1 hjV).1
  have e1 : W1.heap[j]? = W.heap[j]? := ((h2.block j hjVl).trans (h1.block j hjl))
  have e2 : W2.heap[j]? = W1.heap[j]? := hgr.block j (Nat.lt_of_lt_of_le hjVl h2.size) (fun e => by
    obtain ⟨_, cur, q⟩ := ho j e.symm
    have := hjV.symm.trans q
    injection this with this
    injection this with _ q2
    exact hT q2.symm)
  have hne : b ≠ j := fun e => by
    subst e
    have := hjV.symm.trans hbt
    injection this with this
    injection this with _ q2
    exact hT' ht q2.symm
  rw [← e1, ← e2]
  simp only [World.setCell]
  rw [Array.getElem?_modify]
  simp [hne]
/-- The block beside the rows is turned, no row. -/
theorem RepV.but {base g : Nat} {W W' : World} {TR : TypeId} {sc sc' : Scn} {val : Key → Value} (h : RepV base W g TR sc val) (hg : W.grownBy W' (some g)) (hB : Blk W' g TR (rcells sc' val)) (hsc : rowsOf sc' val = rowsOf sc val) (h1 : sc'.texs = sc.texs) (h2 : sc'.cages = sc.cages) : RepV base W' g TR sc' val := by
  refine ⟨hB, ?_, ?_, ?_, ?_, ?_, ?_, h.base_le⟩
  · rw [hsc]; exact h.own.beside hg
  · rw [h1]; exact h.nilT
  · rw [h2]; exact h.nilV
  · rw [h2]; exact h.nilF
  · rw [h2]; exact h.nilC
  · unfold cageAt; rw [h2]; exact h.nilR
end Go.Proofs.YtdkgbdecmgligaaGreatDoor

/- The program's own scene: rows of things that it appends to; a light's line. -/
namespace Go.Proofs.YtdkgbdecmgligaaGreatDoor
open Go.RowKit
set_option linter.unusedVariables false
set_option linter.unusedSimpArgs false
set_option linter.unnecessarySimpa false

theorem infoLt : (Tryz.prog.info? 76).map (fun i => (i.zero, i.size, i.bytes)) = some (some (.agg #[.int .i64 0, .int .i64 0, .int .i64 0, .int .i64 0, .int .i64 0, .int .i64 0]), 6, 48) := by kernel_rfl
theorem infoMt : (Tryz.prog.info? 53).map (fun i => (i.zero, i.size, i.bytes)) = some (some (.agg #[.string ⟨#[]⟩, .int .i64 0, .int .i64 0, .int .i64 0, .int .i64 0, .int .i64 0, .int .i64 0, .int .i64 0, .int .i64 0]), 9, 80) := by kernel_rfl
theorem infoTx : (Tryz.prog.info? 51).map (fun i => (i.zero, i.size, i.bytes)) = some (some (.agg #[.string ⟨#[]⟩, .int .i64 0, .int .i64 0, .slice none 0 0]), 4, 56) := by kernel_rfl
theorem infoSk : (Tryz.prog.info? 55).map (fun i => (i.zero, i.size, i.bytes)) = some (some (.agg #[.string ⟨#[]⟩, .int .i64 0, .int .i64 0, .int .i64 0, .int .i64 0, .int .i64 0]), 6, 56) := by kernel_rfl
theorem infoCg : (Tryz.prog.info? 48).map (fun i => (i.zero, i.size, i.bytes)) = some (some (.agg #[.slice none 0 0, .slice none 0 0, .slice none 0 0]), 3, 72) := by kernel_rfl
theorem infoVx : (Tryz.prog.info? 23).map (fun i => (i.zero, i.size, i.bytes)) = some (some (.agg #[.int .i64 0, .int .i64 0, .int .i64 0]), 3, 24) := by kernel_rfl
theorem infoCr : (Tryz.prog.info? 98).map (fun i => (i.zero, i.size, i.bytes)) = some (some (.agg #[.int .i64 0, .int .i64 0, .int .i64 0]), 3, 24) := by kernel_rfl
theorem infoIs : (Tryz.prog.info? 49).map (fun i => (i.zero, i.size, i.bytes)) = some (some (.slice none 0 0), 1, 24) := by kernel_rfl
section
variable {base g : Nat} {W W1 W2 : World} {TR : TypeId} {sc : Scn} {val : Key → Value} {v0 : Value} {cs : List Value}
theorem RepV.lightsP (h : RepV base W g TR sc val) (hv : val .lights = v0) (n : List Int) (hcs : fL n = cs) (v : Value) (hgr : W1.grownBy W2 v0.ownBlock) (hr : W2.ownsRow base 76 6 v (sc.lights.length + 1) (sc.lights.flatMap fL ++ cs)) (hat : v.ownBlock = v0.ownBlock ∨ v.ownBlock = some W1.heap.size) (hb : Below W.heap.size W W1) :
    Blk W2 g TR (rcells sc val) ∧ RepV base (W2.setCell ⟨g, 19, none⟩ v) g TR { sc with lights := sc.lights ++ [n] } (upd val .lights v) := by
  subst hv hcs; exact h.lights hb n v hgr hr hat
theorem RepV.matsP (h : RepV base W g TR sc val) (hv : val .mats = v0) (n : Wd × List Int) (hcs : fM n = cs) (v : Value) (hgr : W1.grownBy W2 v0.ownBlock) (hr : W2.ownsRow base 53 9 v (sc.mats.length + 1) (sc.mats.flatMap fM ++ cs)) (hat : v.ownBlock = v0.ownBlock ∨ v.ownBlock = some W1.heap.size) (hb : Below W.heap.size W W1) :
    Blk W2 g TR (rcells sc val) ∧ RepV base (W2.setCell ⟨g, 20, none⟩ v) g TR { sc with mats := sc.mats ++ [n] } (upd val .mats v) := by
  subst hv hcs; exact h.mats hb n v hgr hr hat
theorem RepV.skinsP (h : RepV base W g TR sc val) (hv : val .skins = v0) (n : SkinM) (hcs : fS n = cs) (v : Value) (hgr : W1.grownBy W2 v0.ownBlock) (hr : W2.ownsRow base 55 6 v (sc.skins.length + 1) (sc.skins.flatMap fS ++ cs)) (hat : v.ownBlock = v0.ownBlock ∨ v.ownBlock = some W1.heap.size) (hb : Below W.heap.size W W1) :
    Blk W2 g TR (rcells sc val) ∧ RepV base (W2.setCell ⟨g, 22, none⟩ v) g TR { sc with skins := sc.skins ++ [n] } (upd val .skins v) := by
  subst hv hcs; exact h.skins hb n v hgr hr hat
theorem RepV.texsP (h : RepV base W g TR sc val) (hv : val .texs = v0) (q : Wd × List Int) (t v : Value) (hcs : fT (q, t) = cs) (hgr : W1.grownBy W2 v0.ownBlock) (hr : W2.ownsRow base 51 4 v (sc.texs.length + 1) ((texSS sc val).flatMap fT ++ cs)) (hat : v.ownBlock = v0.ownBlock ∨ v.ownBlock = some W1.heap.size) (hb : Below W.heap.size W W1) (ht : roRow W1 W.heap.size 3 t (q.2.drop 2).length (i64s (q.2.drop 2))) :
    Blk W2 g TR (rcells sc val) ∧ RepV base (W2.setCell ⟨g, 21, none⟩ v) g TR { sc with texs := sc.texs ++ [q] } (upd (upd val (.tex sc.texs.length) t) .texs v) := by
  subst hv hcs; exact h.texs hb q t v ht hgr hr hat
theorem RepV.cagesP (h : RepV base W g TR sc val) (hv : val .cages = v0) (v : Value) (hgr : W1.grownBy W2 v0.ownBlock) (hr : W2.ownsRow base 48 3 v (sc.cages.length + 1) ((cageSS sc.cages.length val).flatMap fC ++ [vNil, vNil, vNil])) (hat : v.ownBlock = v0.ownBlock ∨ v.ownBlock = some W1.heap.size) (hb : Below W.heap.size W W1) :
    Blk W2 g TR (rcells sc val) ∧ RepV base (W2.setCell ⟨g, 23, none⟩ v) g TR { sc with cages := sc.cages ++ [⟨[], [], []⟩] } (upd val .cages v) := by
  subst hv; exact h.cages hb v hgr hr hat
theorem RepV.vertP (h : RepV base W g TR sc val) {i : Nat} (hi : i + 1 = sc.cages.length) {b cap : Nat} (hv : val .cages = .slice (some ⟨b, 0, none⟩) sc.cages.length cap) (hv0 : val (.vert i) = v0) (n : List Int) (hcs : [Value.int .i64 (n.getD 0 0), Value.int .i64 (n.getD 1 0), Value.int .i64 (n.getD 2 0)] = cs) (v : Value) (hgr : W1.grownBy W2 v0.ownBlock)
    (hr : W2.ownsRow base 23 3 v ((cageAt sc i).verts.length + 1) (flat3 (cageAt sc i).verts ++ cs)) (hat : v.ownBlock = v0.ownBlock ∨ v.ownBlock = some W1.heap.size) (hb : Below W.heap.size W W1) :
    (W2.ownsRow base 48 3 (.slice (some ⟨b, 0, none⟩) sc.cages.length cap) sc.cages.length ((cageSS sc.cages.length val).flatMap fC)) ∧ RepV base (W2.setCell ⟨b, i * 3 + 0, none⟩ v) g TR { sc with cages := onLast (fun c => { c with verts := c.verts ++ [n] }) sc.cages } (upd val (.vert i) v) := by
  subst hv0 hcs; exact h.vert hb hi hv n v hgr hr hat
theorem RepV.creaseP (h : RepV base W g TR sc val) {i : Nat} (hi : i + 1 = sc.cages.length) {b cap : Nat} (hv : val .cages = .slice (some ⟨b, 0, none⟩) sc.cages.length cap) (hv0 : val (.crease i) = v0) (n : List Int) (hcs : [Value.int .i64 (n.getD 0 0), Value.int .i64 (n.getD 1 0), Value.int .i64 (n.getD 2 0)] = cs) (v : Value) (hgr : W1.grownBy W2 v0.ownBlock)
    (hr : W2.ownsRow base 98 3 v ((cageAt sc i).creases.length + 1) (flat3 (cageAt sc i).creases ++ cs)) (hat : v.ownBlock = v0.ownBlock ∨ v.ownBlock = some W1.heap.size) (hb : Below W.heap.size W W1) :
    (W2.ownsRow base 48 3 (.slice (some ⟨b, 0, none⟩) sc.cages.length cap) sc.cages.length ((cageSS sc.cages.length val).flatMap fC)) ∧ RepV base (W2.setCell ⟨b, i * 3 + 2, none⟩ v) g TR { sc with cages := onLast (fun c => { c with creases := c.creases ++ [n] }) sc.cages } (upd val (.crease i) v) := by
  subst hv0 hcs; exact h.crease hb hi hv n v hgr hr hat
theorem RepV.faceP (h : RepV base W g TR sc val) {i : Nat} (hi : i + 1 = sc.cages.length) {b cap : Nat} (hv : val .cages = .slice (some ⟨b, 0, none⟩) sc.cages.length cap) (hv0 : val (.face i) = v0) (t : Value) (n : List Int) (v : Value) (hgr : W1.grownBy W2 v0.ownBlock)
    (hr : W2.ownsRow base 49 1 v ((cageAt sc i).faces.length + 1) (((List.range (cageAt sc i).faces.length).map fun j => val (.frow i j)) ++ [t])) (hat : v.ownBlock = v0.ownBlock ∨ v.ownBlock = some W1.heap.size) (hb : Below W.heap.size W W1) (ht : roRow W1 W.heap.size 3 t n.length (i64s n)) :
    (W2.ownsRow base 48 3 (.slice (some ⟨b, 0, none⟩) sc.cages.length cap) sc.cages.length ((cageSS sc.cages.length val).flatMap fC)) ∧ RepV base (W2.setCell ⟨b, i * 3 + 1, none⟩ v) g TR { sc with cages := onLast (fun c => { c with faces := c.faces ++ [n] }) sc.cages } (upd (upd val (.frow i (cageAt sc i).faces.length) t) (.face i) v) := by
  subst hv0; exact h.face hb hi hv t n v ht hgr hr hat
end
theorem sub_get (ns : List Int) (a e i : Nat) (h : a + i < e) : ((ns.take e).drop a).getD i 0 = ns.getD (a + i) 0 := by
  simp only [List.getD_eq_getElem?_getD, List.getElem?_drop]
  rw [List.getElem?_take_of_lt h]
theorem cell_new (w : World) (xs : List Value) (t : TypeId) : ∀ j u, xs[j]? = some u → (w.alloc (.cells xs.toArray t)).cell? ((⟨w.heap.size, 0, none⟩ : Addr).add j) = some u := by
  intro j u hu
  have h := Blk.cell (Blk.new w t xs.toArray w.heap.size rfl) j
  have e : (⟨w.heap.size, 0, none⟩ : Addr).add j = ⟨w.heap.size, j, none⟩ := by
    simp only [Addr.add, Nat.zero_add]
    split <;> simp_all
  rw [e, h]; simpa using hu
theorem cell_newG (w : World) (xs : List Value) (t : TypeId) (y : More) : ∀ j u, xs[j]? = some u → (grow (w.alloc (.cells xs.toArray t)) y).cell? ((⟨w.heap.size, 0, none⟩ : Addr).add j) = some u := by
  intro j u hu
  have h := cell_new w xs t j u hu
  have e : ((⟨w.heap.size, 0, none⟩ : Addr).add j).block = w.heap.size := by simp only [Addr.add]; split <;> rfl
  exact ((y.kept (w.alloc (.cells xs.toArray t))).cell (p := (⟨w.heap.size, 0, none⟩ : Addr).add j) (by rw [e]; simp)).trans h
end Go.Proofs.YtdkgbdecmgligaaGreatDoor
