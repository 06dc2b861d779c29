/- The laws of patch: a cage and its moved copy; a row of patches, moved in place. -/
import Derived.Test.YtpdnaceggpdleabPatZ
import Derived.Test.YtpdnaceggpdleabCopyW
import Derived.Test.YtpdnaceggpdleabC15
namespace Go.Proofs.Ytpdnaceggpdleab
open Go.RowKit
set_option linter.unusedVariables false
set_option linter.unusedSimpArgs false
set_option linter.unnecessarySimpa false
/-- A copy of a cage whose vertices are moved as far as i. -/
structure KM (b : P3) (M : Nat) (B1 B2 B3 : Option Addr) (d1 d2 d3 : Nat) (vs : List P3) (fs : List (List Int)) (ks : List P3) (w3 : World) (i : Nat) (wr : World) : Prop where
  bel : Below w3.heap.size w3 wr
  m : Blk wr M 27 #[.slice B1 vs.length d1, .slice B2 fs.length d2, .slice B3 ks.length d3]
  r1 : wr.ownsRow w3.heap.size 30 3 (.slice B1 vs.length d1) vs.length (kC (rowAt (movP b) i vs))
  g1 : OwnF wr w3.heap.size B2 d2 fs
  k1 : wr.ownsRow w3.heap.size 109 3 (.slice B3 ks.length d3) ks.length (kC ks)
section
variable {b : P3} {M : Nat} {B1 B2 B3 : Option Addr} {d1 d2 d3 : Nat} {vs : List P3} {fs : List (List Int)} {ks : List P3} {w3 : World} {i : Nat} {wr wq : World}
theorem KM.lay (h : KM b M B1 B2 B3 d1 d2 d3 vs fs ks w3 i wr) (hb : Below wr.heap.size wr wq) : KM b M B1 B2 B3 d1 d2 d3 vs fs ks w3 i wq :=
  ⟨bel_trans h.bel hb, h.m.below hb, own_lay h.r1 hb, h.g1.lay hb, own_lay h.k1 hb⟩
theorem KM.step (h : KM b M B1 B2 B3 d1 d2 d3 vs fs ks w3 i wr) {g : Nat} (hv : B1 = some ⟨g, 0, none⟩) (hi : i < vs.length) (p : P3) (hp : vs[i] = p) : KM b M B1 B2 B3 d1 d2 d3 vs fs ks w3 (i + 1) (((wr.setCell ⟨g, i * 3, none⟩ (.int .i64 (p.x + b.x))).setCell ⟨g, i * 3 + 1, none⟩ (.int .i64 (p.y + b.y))).setCell ⟨g, i * 3 + 2, none⟩ (.int .i64 (p.z + b.z))) := by
  subst hv
  subst hp
  have hv : (Value.slice (some ⟨g, 0, none⟩) vs.length d1).ownBlock = some g := rfl
  obtain ⟨hb, cur, hB⟩ := own_blk h.r1 hv
  have hg := ((set_grown wr g (i * 3) (.int .i64 (vs[i].x + b.x))).trans (set_grown _ g (i * 3 + 1) (.int .i64 (vs[i].y + b.y)))).trans (set_grown _ g (i * 3 + 2) (.int .i64 (vs[i].z + b.z)))
  have nm := Blk.ne_ hB h.m neVC
  have o := own_put (own_put (own_put h.r1 (g := g) rfl (j := i * 3) (by omega) (.int .i64 (vs[i].x + b.x))) (g := g) rfl (j := i * 3 + 1) (by omega) (.int .i64 (vs[i].y + b.y))) (g := g) rfl (j := i * 3 + 2) (by omega) (.int .i64 (vs[i].z + b.z))
  have e := kC_set3 (rowAt (movP b) i vs) i (movP b vs[i]) (by rw [rowAt_len]; exact hi)
  rw [rowAt_set _ _ _ hi] at e
  refine ⟨bel_set (bel_set (bel_set h.bel (p := ⟨g, i * 3, none⟩) hb _) (p := ⟨g, i * 3 + 1, none⟩) hb _) (p := ⟨g, i * 3 + 2, none⟩) hb _, h.m.kept hg (by simp only [ne_eq, Option.some.injEq]; omega), ?_, ?_, ?_⟩
  · rw [← e]; exact o
  · exact h.g1.kept hg (fun k e => .inr ⟨_, _, _, _, _, _, h.r1, by rw [hv, e], neVI, neVL⟩)
  · exact own_kept h.k1 hg (fun k hk e => by have := own_apart h.r1 h.k1 neVK hv hk; simp only [Option.some.injEq] at e; omega)
theorem KM.cg (h : KM b M B1 B2 B3 d1 d2 d3 vs fs ks w3 vs.length wr) (hv : ∀ p ∈ vs, InP 32768 p) (hb : InP 16384 b) (hi : ∀ q ∈ fs, ∀ x ∈ q, i64B x) (i3 : ∀ p ∈ ks, I3 p) (few : vs.length + fs.length + tot fs + ks.length ≤ 1000000) : CgV wr ⟨vs.map (movP b), fs, ks⟩ B1 B2 B3 :=
  ⟨mov_i3 hv hb, hi, i3, VL_own (base := w3.heap.size) (c := d1) (e := 30) (by have := h.r1; rw [rowAt_all] at this; rw [List.length_map]; exact this), h.g1.fl, VL_own h.k1, by simp only [List.length_map]; omega⟩
end
/-- Two rows of patches, the first moved as far as point k of patch v; a point. -/
structure KP (b : P3) (Y g1 g2 n : Nat) (q r : Nat → PtD) (w0 : World) (v k : Nat) (wr : World) : Prop where
  bel : Below w0.heap.size w0 wr
  y : Blk wr Y 30 #[.int .i64 b.x, .int .i64 b.y, .int .i64 b.z]
  a : Blk wr g1 43 (patC n (rowP q b v k))
  c : Blk wr g2 43 (patC n r)
  n1 : w0.heap.size ≤ g1
  n2 : g1 ≠ g2
section
variable {b : P3} {Y g1 g2 n : Nat} {q r : Nat → PtD} {w0 : World} {v k : Nat} {wr wq : World}
theorem KP.lay (h : KP b Y g1 g2 n q r w0 v k wr) (hb : Below wr.heap.size wr wq) : KP b Y g1 g2 n q r w0 v k wq :=
  ⟨bel_trans h.bel hb, h.y.below hb, h.a.below hb, h.c.below hb, h.n1, h.n2⟩
theorem neVP : (43 : TypeId) ≠ 30 := by decide
theorem KP.step (h : KP b Y g1 g2 n q r w0 v k wr) (hv : v < n) (hk : k < 16) (p : P3) (hp : (q v).pt k = p) : KP b Y g1 g2 n q r w0 v (k + 1) (((wr.setCell ⟨g1, v * 65 + k * 3, none⟩ (.int .i64 (p.x + b.x))).setCell ⟨g1, v * 65 + k * 3 + 1, none⟩ (.int .i64 (p.y + b.y))).setCell ⟨g1, v * 65 + k * 3 + 2, none⟩ (.int .i64 (p.z + b.z))) := by
  subst hp
  have hg := ((set_grown wr g1 (v * 65 + k * 3) (.int .i64 (((q v).pt k).x + b.x))).trans (set_grown _ g1 (v * 65 + k * 3 + 1) (.int .i64 (((q v).pt k).y + b.y)))).trans (set_grown _ g1 (v * 65 + k * 3 + 2) (.int .i64 (((q v).pt k).z + b.z)))
  have ny := Blk.ne_ h.a h.y neVP
  have n2 := h.n2
  exact ⟨bel_set (bel_set (bel_set h.bel (p := ⟨g1, v * 65 + k * 3, none⟩) h.n1 _) (p := ⟨g1, v * 65 + k * 3 + 1, none⟩) h.n1 _) (p := ⟨g1, v * 65 + k * 3 + 2, none⟩) h.n1 _, h.y.kept hg (by simp only [ne_eq, Option.some.injEq]; omega), h.a.setPt3 hv hk, h.c.kept hg (by simp only [ne_eq, Option.some.injEq]; omega), h.n1, h.n2⟩
theorem KP.next (h : KP b Y g1 g2 n q r w0 v 16 wr) : KP b Y g1 g2 n q r w0 (v + 1) 0 wr :=
  ⟨h.bel, h.y, by rw [rowP_next]; exact h.a, h.c, h.n1, h.n2⟩
/-- The point that is next. -/
theorem KP.pt (h : KP b Y g1 g2 n q r w0 v k wr) (hv : v < n) (hk : k < 16) (p : P3) (hp : (q v).pt k = p) : wr.cell? ⟨g1, v * 65 + k * 3, none⟩ = some (.int .i64 p.x) ∧ wr.cell? ⟨g1, v * 65 + k * 3 + 1, none⟩ = some (.int .i64 p.y) ∧ wr.cell? ⟨g1, v * 65 + k * 3 + 2, none⟩ = some (.int .i64 p.z) := by
  subst hp
  have := patP_at h.a hv hk
  have e : (rowP q b v k v).pt k = (q v).pt k := by
    unfold rowP
    rw [if_neg (by omega), if_pos rfl]
    unfold PtD.mov
    simp
  rw [e] at this
  exact this
theorem KP.row (h : KP b Y g1 g2 n q r w0 v 16 wr) : rowP q b v 16 v = (q v).mov b 16 := by
  unfold rowP
  rw [if_neg (by omega), if_pos rfl]
end
/-- A moved net's patches are of the type. -/
theorem patch_I {N : NetD} (ok : NetOk N) {b : P3} (hb : InP 16384 b) (hin : ∀ p ∈ N.vs, InP 32768 p) (hfl : ∀ x ∈ N.t.fans, x.length ≤ 9000) (hfp : ∀ v : Nat, v < N.vs.length → 0 < (N.t.fans.getD v []).length) (hi : ∀ q ∈ N.fs, ∀ x ∈ q, i64B x) {sk : Int} (hs : i64B sk) {f : Nat} (hf : f < N.fs.length) : ((N.patch sk f).mov b 16).I ∧ ∀ k, k < 16 → InP 32768 ((N.patch sk f).pt k) := by
  have hp : ∀ k, k < 16 → InP 32768 ((N.patch sk f).pt k) := fun k hk => in_box ok hb hin hfl hfp fun g hg => patch_box ok hg (by omega) (by omega) (hin_co ok hb hin hfl hfp hg) hfl hfp sk hf hk
  refine ⟨⟨fun k hk => ?_, fun k hk => ?_, fun k hk => ?_, ?_⟩, hp⟩
  · obtain ⟨x, y, z⟩ := hp k hk
    obtain ⟨bx, byy, bz⟩ := hb
    unfold PtD.mov
    simp only [hk, if_true, movP]
    exact ⟨by unfold i64B; simp only; omega, by unfold i64B; simp only; omega, by unfold i64B; simp only; omega⟩
  · have hx : N.fs.getD f [] = N.fs[f] := by rw [List.getD_eq_getElem?_getD, List.getElem?_eq_getElem hf]; rfl
    obtain ⟨h4, _⟩ := ok.four _ (List.getElem_mem hf)
    show i64B ((N.patch sk f).co.getD k 0)
    rw [patch_co, hx]
    refine hi _ (List.getElem_mem hf) _ ?_
    rw [List.getD_eq_getElem?_getD, List.getElem?_eq_getElem (by omega)]
    exact List.getElem_mem _
  · have := (wiB_iff _ _ _ 1023).1 (patch_nm (N := N) sk f hk)
    show I3 ((N.patch sk f).nm k)
    exact ⟨by unfold i64B; omega, by unfold i64B; omega, by unfold i64B; omega⟩
  · show i64B (N.patch sk f).sk
    rw [patch_sk]; exact hs
/-- What the moved cage's net is. -/
theorem net_mov {N M : NetD} {c : Cg} {b : P3} (hv : N.vs = c.vs) (hf : N.fs = c.fs) (hT : TopoS (c.vs.length : Int) c.fs N.t) (hs : sharpP N.t.es c.ks = some N.sh) (mv : M.vs = c.vs.map (movP b)) (mf : M.fs = c.fs) (mT : TopoS (c.vs.length : Int) c.fs M.t) (ms : sharpP M.t.es c.ks = some M.sh) : M = N.mov b := by
  have ht := topo_one9 hT mT
  rw [ht, hs] at ms
  have hsh : N.sh = M.sh := Option.some.inj ms
  cases N; cases M
  simp only at hv hf mv mf ht hsh
  simp only [NetD.mov, NetD.mk.injEq]
  exact ⟨by rw [mv, hv], by rw [mf, hf], hsh.symm, ht⟩
end Go.Proofs.Ytpdnaceggpdleab
