/- The program's own scene: rows of things that it appends to; a light's line. -/
import Derived.Test.YtehmlofhiffanaaDoorScnQ
namespace Go.Proofs.YtehmlofhiffanaaDoor
open Go.RowKit
set_option linter.unusedVariables false
set_option linter.unusedSimpArgs false
set_option linter.unnecessarySimpa false

theorem infoLt : (Tryd.prog.info? 63).map (fun i => (i.zero, i.size, i.bytes)) = some (some (.agg #[.int .i64 0, .int .i64 0, .int .i64 0, .int .i64 0, .int .i64 0, .int .i64 0]), 6, 48) := by kernel_rfl
theorem infoMt : (Tryd.prog.info? 65).map (fun i => (i.zero, i.size, i.bytes)) = some (some (.agg #[.string ⟨#[]⟩, .int .i64 0, .int .i64 0, .int .i64 0, .int .i64 0, .int .i64 0, .int .i64 0, .int .i64 0, .int .i64 0]), 9, 80) := by kernel_rfl
theorem infoTx : (Tryd.prog.info? 67).map (fun i => (i.zero, i.size, i.bytes)) = some (some (.agg #[.string ⟨#[]⟩, .int .i64 0, .int .i64 0, .slice none 0 0]), 4, 56) := by kernel_rfl
theorem infoSk : (Tryd.prog.info? 42).map (fun i => (i.zero, i.size, i.bytes)) = some (some (.agg #[.string ⟨#[]⟩, .int .i64 0, .int .i64 0, .int .i64 0, .int .i64 0, .int .i64 0]), 6, 56) := by kernel_rfl
theorem infoCg : (Tryd.prog.info? 47).map (fun i => (i.zero, i.size, i.bytes)) = some (some (.agg #[.slice none 0 0, .slice none 0 0, .slice none 0 0]), 3, 72) := by kernel_rfl
theorem infoVx : (Tryd.prog.info? 24).map (fun i => (i.zero, i.size, i.bytes)) = some (some (.agg #[.int .i64 0, .int .i64 0, .int .i64 0]), 3, 24) := by kernel_rfl
theorem infoCr : (Tryd.prog.info? 76).map (fun i => (i.zero, i.size, i.bytes)) = some (some (.agg #[.int .i64 0, .int .i64 0, .int .i64 0]), 3, 24) := by kernel_rfl
theorem infoIs : (Tryd.prog.info? 48).map (fun i => (i.zero, i.size, i.bytes)) = some (some (.slice none 0 0), 1, 24) := by kernel_rfl
section
variable {base g : Nat} {W W1 W2 : World} {TR : TypeId} {sc : Scn} {val : Key → Value} {v0 : Value} {cs : List Value}
theorem RepV.lightsP (h : RepV base W g TR sc val) (hv : val .lights = v0) (n : List Int) (hcs : fL n = cs) (v : Value) (hgr : W1.grownBy W2 v0.ownBlock) (hr : W2.ownsRow base 63 6 v (sc.lights.length + 1) (sc.lights.flatMap fL ++ cs)) (hat : v.ownBlock = v0.ownBlock ∨ v.ownBlock = some W1.heap.size) (hb : Below W.heap.size W W1) :
    Blk W2 g TR (rcells sc val) ∧ RepV base (W2.setCell ⟨g, 19, none⟩ v) g TR { sc with lights := sc.lights ++ [n] } (upd val .lights v) := by
  subst hv hcs; exact h.lights hb n v hgr hr hat
theorem RepV.matsP (h : RepV base W g TR sc val) (hv : val .mats = v0) (n : Wd × List Int) (hcs : fM n = cs) (v : Value) (hgr : W1.grownBy W2 v0.ownBlock) (hr : W2.ownsRow base 65 9 v (sc.mats.length + 1) (sc.mats.flatMap fM ++ cs)) (hat : v.ownBlock = v0.ownBlock ∨ v.ownBlock = some W1.heap.size) (hb : Below W.heap.size W W1) :
    Blk W2 g TR (rcells sc val) ∧ RepV base (W2.setCell ⟨g, 20, none⟩ v) g TR { sc with mats := sc.mats ++ [n] } (upd val .mats v) := by
  subst hv hcs; exact h.mats hb n v hgr hr hat
theorem RepV.skinsP (h : RepV base W g TR sc val) (hv : val .skins = v0) (n : SkinM) (hcs : fS n = cs) (v : Value) (hgr : W1.grownBy W2 v0.ownBlock) (hr : W2.ownsRow base 42 6 v (sc.skins.length + 1) (sc.skins.flatMap fS ++ cs)) (hat : v.ownBlock = v0.ownBlock ∨ v.ownBlock = some W1.heap.size) (hb : Below W.heap.size W W1) :
    Blk W2 g TR (rcells sc val) ∧ RepV base (W2.setCell ⟨g, 22, none⟩ v) g TR { sc with skins := sc.skins ++ [n] } (upd val .skins v) := by
  subst hv hcs; exact h.skins hb n v hgr hr hat
theorem RepV.texsP (h : RepV base W g TR sc val) (hv : val .texs = v0) (q : Wd × List Int) (t v : Value) (hcs : fT (q, t) = cs) (hgr : W1.grownBy W2 v0.ownBlock) (hr : W2.ownsRow base 67 4 v (sc.texs.length + 1) ((texSS sc val).flatMap fT ++ cs)) (hat : v.ownBlock = v0.ownBlock ∨ v.ownBlock = some W1.heap.size) (hb : Below W.heap.size W W1) (ht : roRow W1 W.heap.size 3 t (q.2.drop 2).length (i64s (q.2.drop 2))) :
    Blk W2 g TR (rcells sc val) ∧ RepV base (W2.setCell ⟨g, 21, none⟩ v) g TR { sc with texs := sc.texs ++ [q] } (upd (upd val (.tex sc.texs.length) t) .texs v) := by
  subst hv hcs; exact h.texs hb q t v ht hgr hr hat
theorem RepV.cagesP (h : RepV base W g TR sc val) (hv : val .cages = v0) (v : Value) (hgr : W1.grownBy W2 v0.ownBlock) (hr : W2.ownsRow base 47 3 v (sc.cages.length + 1) ((cageSS sc.cages.length val).flatMap fC ++ [vNil, vNil, vNil])) (hat : v.ownBlock = v0.ownBlock ∨ v.ownBlock = some W1.heap.size) (hb : Below W.heap.size W W1) :
    Blk W2 g TR (rcells sc val) ∧ RepV base (W2.setCell ⟨g, 23, none⟩ v) g TR { sc with cages := sc.cages ++ [⟨[], [], []⟩] } (upd val .cages v) := by
  subst hv; exact h.cages hb v hgr hr hat
theorem RepV.vertP (h : RepV base W g TR sc val) {i : Nat} (hi : i + 1 = sc.cages.length) {b cap : Nat} (hv : val .cages = .slice (some ⟨b, 0, none⟩) sc.cages.length cap) (hv0 : val (.vert i) = v0) (n : List Int) (hcs : [Value.int .i64 (n.getD 0 0), Value.int .i64 (n.getD 1 0), Value.int .i64 (n.getD 2 0)] = cs) (v : Value) (hgr : W1.grownBy W2 v0.ownBlock)
    (hr : W2.ownsRow base 24 3 v ((cageAt sc i).verts.length + 1) (flat3 (cageAt sc i).verts ++ cs)) (hat : v.ownBlock = v0.ownBlock ∨ v.ownBlock = some W1.heap.size) (hb : Below W.heap.size W W1) :
    (W2.ownsRow base 47 3 (.slice (some ⟨b, 0, none⟩) sc.cages.length cap) sc.cages.length ((cageSS sc.cages.length val).flatMap fC)) ∧ RepV base (W2.setCell ⟨b, i * 3 + 0, none⟩ v) g TR { sc with cages := onLast (fun c => { c with verts := c.verts ++ [n] }) sc.cages } (upd val (.vert i) v) := by
  subst hv0 hcs; exact h.vert hb hi hv n v hgr hr hat
theorem RepV.creaseP (h : RepV base W g TR sc val) {i : Nat} (hi : i + 1 = sc.cages.length) {b cap : Nat} (hv : val .cages = .slice (some ⟨b, 0, none⟩) sc.cages.length cap) (hv0 : val (.crease i) = v0) (n : List Int) (hcs : [Value.int .i64 (n.getD 0 0), Value.int .i64 (n.getD 1 0), Value.int .i64 (n.getD 2 0)] = cs) (v : Value) (hgr : W1.grownBy W2 v0.ownBlock)
    (hr : W2.ownsRow base 76 3 v ((cageAt sc i).creases.length + 1) (flat3 (cageAt sc i).creases ++ cs)) (hat : v.ownBlock = v0.ownBlock ∨ v.ownBlock = some W1.heap.size) (hb : Below W.heap.size W W1) :
    (W2.ownsRow base 47 3 (.slice (some ⟨b, 0, none⟩) sc.cages.length cap) sc.cages.length ((cageSS sc.cages.length val).flatMap fC)) ∧ RepV base (W2.setCell ⟨b, i * 3 + 2, none⟩ v) g TR { sc with cages := onLast (fun c => { c with creases := c.creases ++ [n] }) sc.cages } (upd val (.crease i) v) := by
  subst hv0 hcs; exact h.crease hb hi hv n v hgr hr hat
theorem RepV.faceP (h : RepV base W g TR sc val) {i : Nat} (hi : i + 1 = sc.cages.length) {b cap : Nat} (hv : val .cages = .slice (some ⟨b, 0, none⟩) sc.cages.length cap) (hv0 : val (.face i) = v0) (t : Value) (n : List Int) (v : Value) (hgr : W1.grownBy W2 v0.ownBlock)
    (hr : W2.ownsRow base 48 1 v ((cageAt sc i).faces.length + 1) (((List.range (cageAt sc i).faces.length).map fun j => val (.frow i j)) ++ [t])) (hat : v.ownBlock = v0.ownBlock ∨ v.ownBlock = some W1.heap.size) (hb : Below W.heap.size W W1) (ht : roRow W1 W.heap.size 3 t n.length (i64s n)) :
    (W2.ownsRow base 47 3 (.slice (some ⟨b, 0, none⟩) sc.cages.length cap) sc.cages.length ((cageSS sc.cages.length val).flatMap fC)) ∧ RepV base (W2.setCell ⟨b, i * 3 + 1, none⟩ v) g TR { sc with cages := onLast (fun c => { c with faces := c.faces ++ [n] }) sc.cages } (upd (upd val (.frow i (cageAt sc i).faces.length) t) (.face i) v) := by
  subst hv0; exact h.face hb hi hv t n v ht hgr hr hat
end
theorem sub_get (ns : List Int) (a e i : Nat) (h : a + i < e) : ((ns.take e).drop a).getD i 0 = ns.getD (a + i) 0 := by
  simp only [List.getD_eq_getElem?_getD, List.getElem?_drop]
  rw [List.getElem?_take_of_lt h]
theorem cell_new (w : World) (xs : List Value) (t : TypeId) : ∀ j u, xs[j]? = some u → (w.alloc (.cells xs.toArray t)).cell? ((⟨w.heap.size, 0, none⟩ : Addr).add j) = some u := by
  intro j u hu
  have h := Blk.cell (Blk.new w t xs.toArray w.heap.size rfl) j
  have e : (⟨w.heap.size, 0, none⟩ : Addr).add j = ⟨w.heap.size, j, none⟩ := by
    simp only [Addr.add, Nat.zero_add]
    split <;> simp_all
  rw [e, h]; simpa using hu
theorem cell_newG (w : World) (xs : List Value) (t : TypeId) (y : More) : ∀ j u, xs[j]? = some u → (grow (w.alloc (.cells xs.toArray t)) y).cell? ((⟨w.heap.size, 0, none⟩ : Addr).add j) = some u := by
  intro j u hu
  have h := cell_new w xs t j u hu
  have e : ((⟨w.heap.size, 0, none⟩ : Addr).add j).block = w.heap.size := by simp only [Addr.add]; split <;> rfl
  exact ((y.kept (w.alloc (.cells xs.toArray t))).cell (p := (⟨w.heap.size, 0, none⟩ : Addr).add j) (by rw [e]; simp)).trans h
end Go.Proofs.YtehmlofhiffanaaDoor
