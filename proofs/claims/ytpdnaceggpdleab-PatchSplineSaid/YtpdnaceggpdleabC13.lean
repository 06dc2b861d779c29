/- Package sub: Level. alive of layer 9; is a cage more than is looked at? The finer faces make a surface; what was round is. No program is imported. A row's length within its room, all that a copy asks: of a cage's vertices and creases. A row's length is within its room: of a cage's vertices. Each coordinate of a finer cage, exactly. -/
import Derived.Test.YtpdnaceggpdleabC0
import Derived.Test.YtpdnaceggpdleabC2
import Derived.Test.YtpdnaceggpdleabC3
import Derived.Test.YtpdnaceggpdleabC6
import Derived.Test.YtpdnaceggpdleabC7
import Derived.Test.YtpdnaceggpdleabC12
namespace Go.Proofs.Ytpdnaceggpdleab
open Go.RowKit
set_option linter.unusedVariables false
set_option linter.unusedSimpArgs false
set_option linter.unnecessarySimpa false
set_option maxRecDepth 100000
theorem rng_all {W : World} {b : Nat} {t : TypeId} {cs : List Value} (h : Blk W b t cs.toArray) : W.rangeAt b 0 cs := fun j v hv => by
  rw [Nat.zero_add, h.cell]; simpa using hv
/-- A row of n points, wherever; of faces; a cage. -/
def PA (n : Nat) (ps : List P3) : World → Value → Prop := fun w v => ∃ A c, v = .slice A n c ∧ VL w A ps
theorem PA.stays (n : Nat) (ps : List P3) : Stays (PA n ps) := fun w w' v hB ⟨A, c, e, h⟩ => ⟨A, c, e, h.below hB⟩
def PF (fs : List (List Int)) : World → Value → Prop := fun w v => ∃ A c, v = .slice A fs.length c ∧ FL w A fs
theorem PF.stays (fs : List (List Int)) : Stays (PF fs) := fun w w' v hB ⟨A, c, e, h⟩ => ⟨A, c, e, h.below hB⟩
def PC (n : Nat) (ps : List P3) (fs : List (List Int)) (ks : List P3) : World → Value → Prop := fun w v => ∃ R1 e1 R2 e2 R3 e3, v = .agg #[.slice R1 n e1, .slice R2 fs.length e2, .slice R3 ks.length e3] ∧ VL w R1 ps ∧ FL w R2 fs ∧ VL w R3 ks
theorem PC.stays (n : Nat) (ps : List P3) (fs : List (List Int)) (ks : List P3) : Stays (PC n ps fs ks) := fun w w' v hB ⟨R1, e1, R2, e2, R3, e3, e, h1, h2, h3⟩ => ⟨R1, e1, R2, e2, R3, e3, e, h1.below hB, h2.below hB, h3.below hB⟩
def PK (CK : Nat → Array Value) (ms : List P3) : World → Value → Prop := fun w v => ∃ gm, v = .agg (CK gm) ∧ VL w (some ⟨gm, 0, none⟩) ms
theorem PK.stays (CK : Nat → Array Value) (ms : List P3) : Stays (PK CK ms) := fun w w' v hB ⟨g, e, h⟩ => ⟨g, e, h.below hB⟩
def PB (base : Nat) (t : TypeId) (cs : Array Value) : World → Value → Prop := fun w v => ∃ P, v = .pointer (some ⟨P, 0, none⟩) ∧ base ≤ P ∧ Blk w P t cs
theorem PB.stays (base : Nat) (t : TypeId) (cs : Array Value) : Stays (PB base t cs) := fun w w' v hB ⟨P, e, h1, h2⟩ => ⟨P, e, h1, h2.below hB⟩
def P3S (n1 n2 n3 gm : Nat) (p1 p2 : List P3) : World → Value → Prop := fun w v => ∃ b gA cA gB cB, v = .slice (some ⟨b, 0, none⟩) 3 3 ∧ b < w.heap.size ∧ w.cell? ⟨b, 0, none⟩ = some (.slice gA n1 cA) ∧ w.cell? ⟨b, 1, none⟩ = some (.slice gB n2 cB) ∧ w.cell? ⟨b, 2, none⟩ = some (.slice (some ⟨gm, 0, none⟩) n3 n3) ∧ VL w gA p1 ∧ VL w gB p2
theorem P3S.stays (n1 n2 n3 gm : Nat) (p1 p2 : List P3) : Stays (P3S n1 n2 n3 gm p1 p2) := fun w w' v hB ⟨b, gA, cA, gB, cB, e, hb, h0, h1, h2, h3, h4⟩ => ⟨b, gA, cA, gB, cB, e, Nat.lt_of_lt_of_le hb hB.size, (hB.cell (p := ⟨b, 0, none⟩) hb).trans h0, (hB.cell (p := ⟨b, 1, none⟩) hb).trans h1, (hB.cell (p := ⟨b, 2, none⟩) hb).trans h2, h3.below hB, h4.below hB⟩
theorem p3s_new {n1 n2 n3 gm cA cB : Nat} {p1 p2 : List P3} (w : World) (gA gB : Option Addr) (h1 : VL w gA p1) (h2 : VL w gB p2) : P3S n1 n2 n3 gm p1 p2 (w.alloc (.cells #[.slice gA n1 cA, .slice gB n2 cB, .slice (some ⟨gm, 0, none⟩) n3 n3] 22)) (.slice (some ⟨w.heap.size, 0, none⟩) 3 3) := by
  have hb := Blk.new w 22 #[.slice gA n1 cA, .slice gB n2 cB, .slice (some ⟨gm, 0, none⟩) n3 n3] _ rfl
  have hB : Below w.heap.size w (w.alloc (.cells #[.slice gA n1 cA, .slice gB n2 cB, .slice (some ⟨gm, 0, none⟩) n3 n3] 22)) := bel_alloc (Below.refl _ _) _
  exact ⟨w.heap.size, gA, cA, gB, cB, rfl, hb.lt, hb.cell 0, hb.cell 1, hb.cell 2, h1.below hB, h2.below hB⟩
/-- A row of numbers doesn't lie where slices do. -/
theorem VL.kept_slices {W W' : World} {A : Option Addr} {ps : List P3} {b : Nat} {t : TypeId} {cs : Array Value} (h : VL W A ps) (hg : W.grownBy W' (some b)) (hb : Blk W b t cs) (hs : ∀ (i : Nat) (v : Value), cs[i]? = some v → ∃ a n c, v = .slice a n c) : VL W' A ps := by
  by_cases hp : 0 < ps.length
  · refine h.kept hg fun b2 o2 e hbb => ?_
    obtain ⟨b3, o3, e3, _, hc⟩ := h hp
    rw [e] at e3; cases e3
    subst hbb
    have h0 := (hc 0 hp).1
    rw [hb.cell] at h0
    obtain ⟨a, n, c, hv⟩ := hs _ _ h0
    cases hv
  · exact fun h9 => absurd h9 hp
theorem FL.kept_slices {W W' : World} {A : Option Addr} {fs : List (List Int)} {b : Nat} {t : TypeId} {cs : Array Value} (h : FL W A fs) (hg : W.grownBy W' (some b)) (hb : Blk W b t cs) (hs : ∀ (i : Nat) (v : Value), cs[i]? = some v → v = .slice none 0 0) (hf : ∀ x ∈ fs, 0 < x.length) : FL W' A fs := fun hp => by
  obtain ⟨b2, o2, e, hl, hc⟩ := h hp
  have hne : b2 ≠ b := fun hbb => by
    subst hbb
    obtain ⟨B, m, h1, _⟩ := hc 0 hp
    rw [hb.cell] at h1
    have h2 := hs _ _ h1
    have h3 := hf _ (List.getElem_mem hp)
    injection h2 with _ h4
    omega
  refine ⟨b2, o2, e, Nat.lt_of_lt_of_le hl hg.size, fun i hi => ?_⟩
  obtain ⟨B, m, h1, h2⟩ := hc i hi
  refine ⟨B, m, hg.cell h1 (by simp only; intro e; cases e; exact hne rfl), fun hx => ?_⟩
  obtain ⟨b3, o3, e3, hl3, hc3⟩ := h2 hx
  have hne3 : b3 ≠ b := fun hbb => by
    subst hbb
    have h5 := hc3 0 hx
    rw [hb.cell] at h5
    have h6 := hs _ _ h5
    cases h6
  exact ⟨b3, o3, e3, Nat.lt_of_lt_of_le hl3 hg.size, fun j hj => hg.cell (hc3 j hj) (by simp only; intro e; cases e; exact hne3 rfl)⟩
theorem alloc_Co (a : Act) (o : Oper) (ho : o.op = .alloc 91) (w : World) : (execOp a.eval o).run Try.prog w = .ok (.value (.pointer (some ⟨w.heap.size, 0, none⟩))) (w.alloc (.cells #[.slice none 0 0, .slice none 0 0, .slice none 0 0, .slice none 0 0, .slice none 0 0, .slice none 0 0, .slice none 0 0, .slice none 0 0] 91)) := by
  unfold execOp
  rw [ho]
  kernel_rfl
/-- A cage that lies somewhere, not too great. -/
structure CgV (W : World) (c : Cg) (A1 A2 A3 : Option Addr) : Prop where
  i1 : ∀ p ∈ c.vs, I3 p
  i2 : ∀ q ∈ c.fs, ∀ x ∈ q, i64B x
  i3 : ∀ p ∈ c.ks, I3 p
  v1 : VL W A1 c.vs
  v2 : FL W A2 c.fs
  v3 : VL W A3 c.ks
  few : c.vs.length + c.fs.length + tot c.fs + c.ks.length ≤ 1000000
theorem CgV.below {W W' : World} {c : Cg} {A1 A2 A3 : Option Addr} (h : CgV W c A1 A2 A3) (hb : Below W.heap.size W W') : CgV W' c A1 A2 A3 := ⟨h.i1, h.i2, h.i3, h.v1.below hb, h.v2.below hb, h.v3.below hb, h.few⟩
end Go.Proofs.Ytpdnaceggpdleab
namespace Go.Proofs.Ytpdnaceggpdleab
open Go.RowKit
set_option linter.unusedVariables false
set_option linter.unusedSimpArgs false
set_option linter.unnecessarySimpa false
set_option maxRecDepth 100000
def sq : List (List Int) := [[0, 1, 2, 3]]
theorem sq_ways : waysL 0 sq = [⟨3, 0, 0, 2⟩, ⟨0, 1, 0, 3⟩, ⟨1, 2, 0, 0⟩, ⟨2, 3, 0, 1⟩] := rfl
def sqE : List Ed := [⟨0, 1, 0, -1⟩, ⟨0, 3, -1, 0⟩, ⟨1, 2, 0, -1⟩, ⟨2, 3, 0, -1⟩]
theorem sq_edges : EdgesR (waysL 0 sq) sqE := by
  rw [sq_ways]
  have e1 : edOf [⟨3, 0, 0, 2⟩, ⟨0, 1, 0, 3⟩, ⟨1, 2, 0, 0⟩, ⟨2, 3, 0, 1⟩] 0 3 = ⟨0, 3, -1, 0⟩ := by simp [edOf, faceOf, look]
  have e2 : edOf [⟨3, 0, 0, 2⟩, ⟨0, 1, 0, 3⟩, ⟨1, 2, 0, 0⟩, ⟨2, 3, 0, 1⟩] 0 1 = ⟨0, 1, 0, -1⟩ := by simp [edOf, faceOf, look]
  have e3 : edOf [⟨3, 0, 0, 2⟩, ⟨0, 1, 0, 3⟩, ⟨1, 2, 0, 0⟩, ⟨2, 3, 0, 1⟩] 1 2 = ⟨1, 2, 0, -1⟩ := by simp [edOf, faceOf, look]
  have e4 : edOf [⟨3, 0, 0, 2⟩, ⟨0, 1, 0, 3⟩, ⟨1, 2, 0, 0⟩, ⟨2, 3, 0, 1⟩] 2 3 = ⟨2, 3, 0, -1⟩ := by simp [edOf, faceOf, look]
  constructor
  · simp [sqE, ltE]
  · intro e
    unfold sqE
    simp only [List.mem_cons, List.not_mem_nil, or_false, exists_eq_or_imp, exists_eq_left]
    simp only [show min (3 : Int) 0 = 0 from rfl, show max (3 : Int) 0 = 3 from rfl, show min (0 : Int) 1 = 0 from rfl, show max (0 : Int) 1 = 1 from rfl, show min (1 : Int) 2 = 1 from rfl, show max (1 : Int) 2 = 2 from rfl, show min (2 : Int) 3 = 2 from rfl, show max (2 : Int) 3 = 3 from rfl, e1, e2, e3, e4]
    constructor
    · rintro (h | h | h | h) <;> simp [h]
    · rintro (h | h | h | h) <;> simp [h]
theorem sq_walk : WalkOk 4 sq where
  long := by simp [Long, sq]
  inr := by rw [sq_ways]; simp [InR]
  apart := by rw [sq_ways]; simp [Apart, apart]
  pos := by omega
  all v h0 h1 := by
    rw [sq_ways]
    have : v = 0 ∨ v = 1 ∨ v = 2 ∨ v = 3 := by omega
    rcases this with rfl | rfl | rfl | rfl <;> simp
theorem sq_fan (v b : Int) (w : Way) (hm : froms (waysL 0 sq) v = [w]) (ha : w.b = b) (hc : w.c ≠ b) : FanR (waysL 0 sq) v b [w] false where
  mem u hu := by rw [← hm] at hu; exact mem_froms.1 hu
  first _ := ha
  link i h := by simp at h
  mid i h := by simp at h
  back h := by cases h
  stop _ := ⟨fun u hu h1 h2 => by
    have : u ∈ froms (waysL 0 sq) v := mem_froms.2 ⟨hu, h1⟩
    rw [hm, List.mem_singleton] at this
    subst this
    simp [ends] at h2
    exact hc (h2.symm.trans ha), .inr (by simp [ends]; exact hc)⟩
theorem sq_surf : Surf 4 sq := ⟨sq_walk, fun v h0 h1 => by
  have : v = 0 ∨ v = 1 ∨ v = 2 ∨ v = 3 := by omega
  rcases this with rfl | rfl | rfl | rfl
  · refine ⟨[⟨0, 1, 0, 3⟩], false, sq_fan _ _ _ (by rw [sq_ways]; rfl) ?_ ?_, by rw [sq_ways]; rfl⟩ <;> simp [sq_ways, hubOf, froms, hubStep]
  · refine ⟨[⟨1, 2, 0, 0⟩], false, sq_fan _ _ _ (by rw [sq_ways]; rfl) ?_ ?_, by rw [sq_ways]; rfl⟩ <;> simp [sq_ways, hubOf, froms, hubStep]
  · refine ⟨[⟨2, 3, 0, 1⟩], false, sq_fan _ _ _ (by rw [sq_ways]; rfl) ?_ ?_, by rw [sq_ways]; rfl⟩ <;> simp [sq_ways, hubOf, froms, hubStep]
  · refine ⟨[⟨3, 0, 0, 2⟩], false, sq_fan _ _ _ (by rw [sq_ways]; rfl) ?_ ?_, by rw [sq_ways]; rfl⟩ <;> simp [sq_ways, hubOf, froms, hubStep]⟩
set_option maxHeartbeats 1000000 in
theorem great9_any (W : World) (A1 A2 A3 : Option Addr) (n1 n3 k1 k2 k3 : Nat) (fs : List (List Int)) (hA : FL W A2 fs) (h1 : n1 < 1099511627776000) (h2 : fs.length < 1099511627776000) (h3 : n3 < 1099511627776000) (hx : ∀ x ∈ fs, x.length < 1099511627776000) :
    Calls Try.prog 18 #[.agg #[.slice A1 n1 k1, .slice A2 fs.length k2, .slice A3 n3 k3]] W fun e W' => ∃ b, e = .returned (.bool b) ∧ Below W.heap.size W W' ∧ (b = false → n1 ≤ 60 ∧ n1 + n3 + fs.length + tot fs ≤ 300) := by
  have hb0 : Below W.heap.size W (W.alloc (.cells #[.slice A1 n1 k1, .slice A2 fs.length k2, .slice A3 n3 k3] 27)) := bel_alloc (Below.refl _ _) _
  have hC0 : Blk (W.alloc (.cells #[.slice A1 n1 k1, .slice A2 fs.length k2, .slice A3 n3 k3] 27)) W.heap.size 27 #[.slice A1 n1 k1, .slice A2 fs.length k2, .slice A3 n3 k3] := Blk.new _ _ _ _ rfl
  go_enter Try.func18, Try.ntmps18
  go_upto_region 1 with (fail)
  generalize W.alloc (.cells #[.slice A1 n1 k1, .slice A2 fs.length k2, .slice A3 n3 k3] 27) = W1 at *
  have x0 : W1.cell? ⟨W.heap.size, 0, none⟩ = some (.slice A1 n1 k1) := hC0.cell 0
  have x1 : W1.cell? ⟨W.heap.size, 1, none⟩ = some (.slice A2 fs.length k2) := hC0.cell 1
  have x2 : W1.cell? ⟨W.heap.size, 2, none⟩ = some (.slice A3 n3 k3) := hC0.cell 2
  have xl := hC0.lt
  have cW := weigh_any W1 A1 A2 A3 n1 n3 k1 k2 k3 300 fs (hA.below hb0) (by omega) h1 h2 h3 hx
  rw [show ((300 : Nat) : Int) = 300 from rfl] at cW
  by_cases d1 : (60 : Int) < (n1 : Int)
  · go_wp2
    go_ret
    exact ⟨true, rfl, hb0, fun h => by cases h⟩
  · go_wp2_with (first | (go_at_call 36; (with_reducible refine cW.mono ?_); rintro e W2 ⟨n, rfl, hb2, hn⟩) | fail)
    go_ret
    refine ⟨decide ((300 : Int) < (n : Int)), by simp, bel_trans hb0 hb2, fun h => ?_⟩
    simp at h
    omega
end Go.Proofs.Ytpdnaceggpdleab
namespace Go.Proofs.Ytpdnaceggpdleab
set_option linter.unusedVariables false
set_option linter.unusedSimpArgs false
set_option linter.unusedSectionVars false
theorem full_len {al L : List Way} {v : Int} (hA : Apart al) (h1 : ∀ w ∈ L, w ∈ al ∧ w.a = v) (h2 : ∀ w ∈ al, w.a = v → w ∈ L) (hn : L.Nodup) : L.length = (froms al v).length := by
  have a1 := nodup_le L (froms al v) hn (fun w hw => mem_froms.2 (h1 w hw))
  have a2 := nodup_le (froms al v) L ((apart_nodup hA).filter _) (fun w hw => by
    obtain ⟨g1, g2⟩ := mem_froms.1 hw
    exact h2 w g1 g2)
  omega
section
variable {n : Int} {fs : List (List Int)} {es : List Ed} (ok : WalkOk n fs) (hE : EdgesR (waysL 0 fs) es)
include ok hE
/-- The number of a corner's finer face. -/
theorem idx_ex : ∃ idx : Way → Int, ∀ w ∈ waysL 0 fs, ∃ (j : Nat) (h : j < (cornL 0 fs).length), (cornL 0 fs)[j] = w ∧ idx w = (j : Int) := by
  refine ⟨fun w => (((cornL 0 fs).findIdx fun u => u.a == w.a && u.b == w.b : Nat) : Int), fun w hw => ?_⟩
  obtain ⟨j, hj, e⟩ := corn_at ok hE hw
  have hl : ((cornL 0 fs).findIdx fun u => u.a == w.a && u.b == w.b) < (cornL 0 fs).length := List.findIdx_lt_length_of_exists ⟨w, by rw [← e]; exact List.getElem_mem hj, by simp⟩
  have := List.findIdx_getElem (w := hl)
  simp only [Bool.and_eq_true, beq_iff_eq] at this
  exact ⟨_, hl, ok.apart.key (corn_in ok hE hl) hw this.1 this.2, rfl⟩
theorem t_mem {idx : Way → Int} (hi : ∀ w ∈ waysL 0 fs, ∃ (j : Nat) (h : j < (cornL 0 fs).length), (cornL 0 fs)[j] = w ∧ idx w = (j : Int)) {w : Way} (hw : w ∈ waysL 0 fs) : t1 n es (idx w) w ∈ waysL 0 (fine n es fs) ∧ t2 n es (idx w) w ∈ waysL 0 (fine n es fs) ∧ t3 n es (idx w) w ∈ waysL 0 (fine n es fs) ∧ t4 n es (idx w) w ∈ waysL 0 (fine n es fs) := by
  obtain ⟨j, hj, e1, e2⟩ := hi w hw
  rw [e2]
  refine ⟨fine_mem.2 ⟨j, hj, ?_⟩, fine_mem.2 ⟨j, hj, ?_⟩, fine_mem.2 ⟨j, hj, ?_⟩, fine_mem.2 ⟨j, hj, ?_⟩⟩ <;> rw [e1] <;> simp
theorem t_all {idx : Way → Int} (hi : ∀ w ∈ waysL 0 fs, ∃ (j : Nat) (h : j < (cornL 0 fs).length), (cornL 0 fs)[j] = w ∧ idx w = (j : Int)) {u : Way} (hu : u ∈ waysL 0 (fine n es fs)) : ∃ w ∈ waysL 0 fs, u = t1 n es (idx w) w ∨ u = t2 n es (idx w) w ∨ u = t3 n es (idx w) w ∨ u = t4 n es (idx w) w := by
  obtain ⟨j, hj, h⟩ := fine_mem.1 hu
  have hw := corn_in ok hE hj
  obtain ⟨k, hk, e1, e2⟩ := hi _ hw
  have := corn_inj ok hE hk hj e1
  subst this
  exact ⟨_, hw, by rw [e2]; exact h⟩
theorem ends_map {L : List Way} (g : Way → Way) (h : 0 < L.length) (s : Int) : ends (L.map g) s = (g (L[L.length - 1]'(by omega))).c := by
  rw [ends_at s (by simpa using h), List.getElem_map]
  congr 2
  simp
/-- About a vertex that was there. -/
theorem fan_old {v s : Int} {M : List Way} {r : Bool} (hv0 : 0 ≤ v) (hv : v < n) (hF : FanR (waysL 0 fs) v s M r) (hl : M.length = (froms (waysL 0 fs) v).length) :
    ∃ L, FanR (waysL 0 (fine n es fs)) v (hubOf (waysL 0 (fine n es fs)) v (waysL 0 (fine n es fs))).1 L r ∧ L.length = (froms (waysL 0 (fine n es fs)) v).length ∧ L.length = M.length := by
  obtain ⟨idx, hi⟩ := idx_ex ok hE
  have hpos := fan_pos ok hv0 hv hl
  have hall := fan_all ok hF hl
  have hm := fun i (h : i < M.length) => hF.mem _ (List.getElem_mem h)
  have hnd := hF.toFanC.nodup ok
  have fok := fine_walk ok hE
  have hLnd : (M.map fun w => t2 n es (idx w) w).Nodup := by
    rw [List.nodup_iff_pairwise_ne, List.pairwise_map, List.pairwise_iff_getElem]
    intro i j h1 h2 hij e
    have e2 := congrArg Way.b e
    have := ahead_from ok hE (hm i h1).1 (hm j h2).1 e2 ((hm i h1).2.trans (hm j h2).2.symm)
    have := (List.getElem_inj hnd).1 this
    omega
  have hcov : ∀ u ∈ waysL 0 (fine n es fs), u.a = v → u ∈ M.map fun w => t2 n es (idx w) w := fun u hu ha => by
    obtain ⟨w, hw, h⟩ := t_all ok hE hi hu
    have r2 := ahead_rng ok hE hw
    have r3 := behind_rng ok hE hw
    have r4 := mid_rng ok hE hw
    rcases h with rfl | rfl | rfl | rfl <;> simp only [t1, t2, t3, t4] at ha
    · omega
    · exact List.mem_map.2 ⟨w, hall w hw ha, rfl⟩
    · omega
    · omega
  have hmem : ∀ u ∈ M.map (fun w => t2 n es (idx w) w), u ∈ waysL 0 (fine n es fs) ∧ u.a = v := fun u hu => by
    obtain ⟨w, hw, rfl⟩ := List.mem_map.1 hu
    have := hF.mem w hw
    exact ⟨(t_mem ok hE hi this.1).2.1, this.2⟩
  have hlen := full_len fok.apart hmem hcov hLnd
  have hprev : ∀ i (h : i < M.length), hBehind n es M[i] = n + (eix es v M[i].c : Int) := fun i h => by
    unfold hBehind; rw [(hm i h).2, eix_symm]
  have hahead : ∀ i (h : i < M.length), hAhead n es M[i] = n + (eix es v M[i].b : Int) := fun i h => by
    unfold hAhead; rw [(hm i h).2]
  -- a way ahead that comes to the same edge as the one behind
  have hone : ∀ i j (h : i < M.length) (h2 : j < M.length), hBehind n es M[i] = hAhead n es M[j] → M[i].c = M[j].b := fun i j h h2 e => by
    obtain ⟨p, hp, p1, p2, p3, p4⟩ := behind_is ok hE (hm i h).1
    rw [p4] at e
    unfold hAhead at e
    rcases same_edge ok hE hp (hm j h2).1 (by omega) with e2 | ⟨e2, e3, _⟩
    · exfalso
      have : p.a = p.b := by rw [p2, (hm i h).2, ← (hm j h2).2, ← e2]
      exact ok.ne hp this
    · rw [← p1]; exact e2
  have hs := hF.first hpos
  have hFC : FanC (waysL 0 (fine n es fs)) v (hAhead n es (M[0]'hpos)) (M.map fun w => t2 n es (idx w) w) := {
    mem := hmem
    first := fun h => by rw [List.getElem_map]; rfl
    link := fun i h => by
      have h2 : i + 1 < M.length := by simpa using h
      rw [List.getElem_map, List.getElem_map]
      show hAhead n es M[i + 1] = hBehind n es M[i]
      rw [hahead _ h2, hprev _ (by omega), hF.link i h2]
    mid := fun i h => by
      have h2 : i + 1 < M.length := by simpa using h
      rw [List.getElem_map]
      show hBehind n es M[i] ≠ _
      intro e
      have := hone i 0 (by omega) hpos e
      rw [hs] at this
      exact hF.mid i h2 this }
  have hends : ends (M.map fun w => t2 n es (idx w) w) (hAhead n es (M[0]'hpos)) = hBehind n es (M[M.length - 1]'(by omega)) := ends_map ok hE _ hpos _
  have hends2 := ends_at s hpos
  obtain ⟨L, g1, g2⟩ := cover fok (by simpa using hpos) hFC hlen r (fun hr => by
      have := (hF.back hr).2
      rw [hends, hprev _ (by omega), hahead _ hpos, ← hends2, this, hs]) (fun hr => by
      obtain ⟨b1, b2⟩ := hF.stop hr
      have b3 : ends M s ≠ s := b2.resolve_left (fun e => by rw [e] at hpos; simp at hpos)
      refine ⟨fun e => ?_, fun u hu ha e => ?_⟩
      · rw [hends] at e
        have := hone _ _ (by omega) hpos e
        rw [hs, ← hends2] at this
        exact b3 this
      · obtain ⟨w, hw, rfl⟩ := List.mem_map.1 (hcov u hu ha)
        obtain ⟨j, hj, rfl⟩ := List.getElem_of_mem hw
        rw [hends] at e
        have := hone _ _ (by omega) hj e.symm
        rw [← hends2] at this
        exact b1 _ (hm j hj).1 (hm j hj).2 this.symm)
  exact ⟨L, g1, g2, by rw [g2, ← hlen]; simp⟩
/-- About a face's new vertex. -/
theorem fan_face (f : Nat) (hf : f < fs.length) :
    ∃ L r, FanR (waysL 0 (fine n es fs)) (n + es.length + f) (hubOf (waysL 0 (fine n es fs)) (n + es.length + f) (waysL 0 (fine n es fs))).1 L r ∧ L.length = (froms (waysL 0 (fine n es fs)) (n + es.length + f)).length := by
  obtain ⟨idx, hi⟩ := idx_ex ok hE
  have fok := fine_walk ok hE
  have hl := ok.long _ (List.getElem_mem hf)
  have hn0 := ok.pos
  obtain ⟨x, hx⟩ : ∃ x, fs[f] = x := ⟨_, rfl⟩
  rw [hx] at hl
  have hcw : ∀ i, i < x.length → cw (f : Int) x i ∈ waysL 0 fs := fun i h => by
    refine (mem_waysL fs 0 _).2 ⟨f, hf, ?_⟩
    rw [hx, Nat.zero_add]
    exact cw_mem (by omega) h
  have hcor : ∀ i j, i < x.length → j < x.length → x.getD i 0 = x.getD j 0 → i = j := fun i j h1 h2 e => ok.corner f hf (by rw [hx]; exact h1) (by rw [hx]; exact h2) (by rw [hx]; exact e)
  have hinf : ∀ w ∈ waysL 0 fs, w.f = f → ∃ i, i < x.length ∧ w = cw (f : Int) x i := fun w hw e => by
    obtain ⟨j, hj, hm⟩ := (mem_waysL fs 0 w).1 hw
    have := waysF_fc hm
    have hjf : j = f := by omega
    subst hjf
    rw [hx] at hm
    rw [← cornF_mem (by omega)] at hm
    obtain ⟨i, h1, h2⟩ := List.mem_map.1 hm
    exact ⟨i, by simpa using h1, by rw [← h2]; simp⟩
  have hLnd : ((List.range x.length).map fun i => t4 n es (idx (cw f x i)) (cw f x i)).Nodup := by
    rw [List.nodup_iff_pairwise_ne, List.pairwise_map, List.pairwise_iff_getElem]
    intro i j h1 h2 hij e
    have i1 : i < x.length := by simpa using h1
    have j1 : j < x.length := by simpa using h2
    simp only [List.getElem_range] at e
    have e2 := congrArg Way.b e
    have := behind_one ok hE (hcw i i1) (hcw j j1) e2 rfl
    have := hcor i j i1 j1 (congrArg Way.a this)
    omega
  have hmem : ∀ u ∈ (List.range x.length).map (fun i => t4 n es (idx (cw f x i)) (cw f x i)), u ∈ waysL 0 (fine n es fs) ∧ u.a = n + es.length + f := fun u hu => by
    obtain ⟨i, h1, rfl⟩ := List.mem_map.1 hu
    exact ⟨(t_mem ok hE hi (hcw i (by simpa using h1))).2.2.2, rfl⟩
  have hcov : ∀ u ∈ waysL 0 (fine n es fs), u.a = n + es.length + f → u ∈ (List.range x.length).map (fun i => t4 n es (idx (cw f x i)) (cw f x i)) := fun u hu ha => by
    obtain ⟨w, hw, h⟩ := t_all ok hE hi hu
    have r1 := way_rng ok hE hw
    have r2 := ahead_rng ok hE hw
    have r3 := behind_rng ok hE hw
    rcases h with rfl | rfl | rfl | rfl <;> simp only [t1, t2, t3, t4] at ha
    · omega
    · omega
    · omega
    · obtain ⟨i, h1, h2⟩ := hinf w hw (by unfold hMid at ha; omega)
      exact List.mem_map.2 ⟨i, by simpa using h1, by rw [h2]⟩
  have hlen := full_len fok.apart hmem hcov hLnd
  have hstep : ∀ i, i < x.length → hAhead n es (cw f x i) = hBehind n es (cw f x ((i + 1) % x.length)) := fun i h => by
    obtain ⟨e1, e2, e3⟩ := mod_forth h (show 2 ≤ x.length by omega)
    unfold hAhead hBehind cw
    simp only
    rw [e1]
  have hFC : FanC (waysL 0 (fine n es fs)) (n + es.length + f) (hBehind n es (cw f x 0)) ((List.range x.length).map fun i => t4 n es (idx (cw f x i)) (cw f x i)) := {
    mem := hmem
    first := fun h => by rw [List.getElem_map, List.getElem_range]; rfl
    link := fun i h => by
      have h2 : i + 1 < x.length := by simpa using h
      rw [List.getElem_map, List.getElem_map, List.getElem_range, List.getElem_range]
      show hBehind n es (cw f x (i + 1)) = hAhead n es (cw f x i)
      rw [hstep i (by omega), Nat.mod_eq_of_lt h2]
    mid := fun i h => by
      have h2 : i + 1 < x.length := by simpa using h
      rw [List.getElem_map, List.getElem_range]
      show hAhead n es (cw f x i) ≠ _
      rw [hstep i (by omega), Nat.mod_eq_of_lt h2]
      intro e
      have := behind_one ok hE (hcw _ h2) (hcw 0 (by omega)) e rfl
      have := hcor (i + 1) 0 h2 (by omega) (congrArg Way.a this)
      omega }
  obtain ⟨L, g1, g2⟩ := cover fok (by simp; omega) hFC hlen true (fun _ => by
    rw [ends_at _ (by simp; omega), List.getElem_map, List.getElem_range]
    show hAhead n es (cw f x _) = _
    rw [hstep _ (by simp; omega)]
    congr 2
    simp only [List.length_map, List.length_range]
    rw [Nat.sub_add_cancel (by omega), Nat.mod_self]) (fun h => by cases h)
  exact ⟨L, true, g1, g2⟩
/-- About an edge's new vertex. -/
theorem fan_edge (k : Nat) (hk : k < es.length) :
    ∃ L r, FanR (waysL 0 (fine n es fs)) (n + k) (hubOf (waysL 0 (fine n es fs)) (n + k) (waysL 0 (fine n es fs))).1 L r ∧ L.length = (froms (waysL 0 (fine n es fs)) (n + k)).length := by
  obtain ⟨idx, hi⟩ := idx_ex ok hE
  have fok := fine_walk ok hE
  have hn0 := ok.pos
  obtain ⟨w, hw, hwk⟩ : ∃ w ∈ waysL 0 fs, eix es w.a w.b = k := by
    obtain ⟨w, hw, e2⟩ := (hE.mem _).1 (List.getElem_mem hk)
    refine ⟨w, hw, ?_⟩
    obtain ⟨k1, k2, k3⟩ := eix_spec ok hE hw
    apply Classical.byContradiction
    intro hne
    have hs := List.pairwise_iff_getElem.1 hE.sorted
    have g1 : es[k].a = min w.a w.b := by rw [e2]; rfl
    have g2 : es[k].b = max w.a w.b := by rw [e2]; rfl
    rcases Nat.lt_or_ge (eix es w.a w.b) k with h | h
    · have := hs _ _ k1 hk h
      unfold ltE at this; omega
    · have := hs _ _ hk k1 (by omega)
      unfold ltE at this; omega
  have hne := ok.ne hw
  have hra := way_rng ok hE hw
  have hm1 := mid_rng ok hE hw
  obtain ⟨d, hw2⟩ := ok.next hw
  -- ways from there
  have hfrom : ∀ u ∈ waysL 0 (fine n es fs), u.a = n + k → ∃ y ∈ waysL 0 fs, (eix es y.a y.b = k ∧ u = t3 n es (idx y) y) ∨ (∃ p ∈ waysL 0 fs, p.a = y.c ∧ p.b = y.a ∧ p.f = y.f ∧ eix es p.a p.b = k ∧ u = t1 n es (idx y) y) := fun u hu ha => by
    obtain ⟨y, hy, h⟩ := t_all ok hE hi hu
    have r1 := way_rng ok hE hy
    have r4 := mid_rng ok hE hy
    rcases h with rfl | rfl | rfl | rfl <;> simp only [t1, t2, t3, t4] at ha
    · obtain ⟨p, hp, p1, p2, p3, p4⟩ := behind_is ok hE hy
      exact ⟨y, hy, .inr ⟨p, hp, p1, p2, p3, by rw [p4] at ha; unfold hAhead at ha; omega, rfl⟩⟩
    · omega
    · exact ⟨y, hy, .inl ⟨by unfold hAhead at ha; omega, rfl⟩⟩
    · omega
  have hA : ∀ y ∈ waysL 0 fs, eix es y.a y.b = k → ∀ z ∈ waysL 0 fs, z.a = y.b → z.f = y.f → t1 n es (idx z) z ∈ waysL 0 (fine n es fs) ∧ (t1 n es (idx z) z).a = n + k ∧ t3 n es (idx y) y ∈ waysL 0 (fine n es fs) ∧ (t3 n es (idx y) y).a = n + k ∧ (t1 n es (idx z) z).b = y.b ∧ (t1 n es (idx z) z).c = hMid n es y ∧ (t3 n es (idx y) y).b = hMid n es y ∧ (t3 n es (idx y) y).c = y.a := fun y hy hyk z hz z1 z2 => by
    obtain ⟨p, hp, p1, p2, p3, p4⟩ := behind_is ok hE hz
    have : p = y := by
      obtain ⟨d3, hd3⟩ := ok.next hp
      obtain ⟨d4, hd4⟩ := ok.next hy
      have e1 := ok.fromf hd3 hd4 (by show p.b = y.b; rw [p2, z1]) (by show p.f = y.f; rw [p3, z2])
      have e2 := congrArg Way.c e1
      exact ok.fromf hp hy e2 (by rw [p3, z2])
    subst this
    refine ⟨(t_mem ok hE hi hz).1, ?_, (t_mem ok hE hi hp).2.2.1, ?_, z1, ?_, rfl, rfl⟩
    · show hBehind n es z = _
      rw [p4]; unfold hAhead; omega
    · show hAhead n es p = _
      unfold hAhead; omega
    · show hMid n es z = _
      unfold hMid; rw [p3]
  obtain ⟨a1, a2, a3, a4, a5, a6, a7, a8⟩ := hA w hw hwk _ hw2 rfl rfl
  have hbr := way_rng ok hE hw2
  simp only at hbr
  by_cases hz : ∃ z ∈ waysL 0 fs, z.a = w.b ∧ z.b = w.a
  · obtain ⟨z, hz, z1, z2⟩ := hz
    have hzk : eix es z.a z.b = k := by rw [z1, z2, eix_symm]; exact hwk
    obtain ⟨d2, hz2⟩ := ok.next hz
    have hm2 := mid_rng ok hE hz
    have hff : w.f ≠ z.f := fun e => by
      have := ahead_one ok hE hw hz (by unfold hAhead; omega) e
      rw [this] at z1; exact ok.ne hz z1
    have hmm : hMid n es w ≠ hMid n es z := fun e => hff (by unfold hMid at e; omega)
    obtain ⟨b1, b2, b3, b4, b5, b6, b7, b8⟩ := hA z hz hzk _ hz2 rfl rfl
    generalize hu1 : t1 n es (idx ⟨w.b, d, w.f, w.a⟩) ⟨w.b, d, w.f, w.a⟩ = u1 at *
    generalize hu2 : t3 n es (idx w) w = u2 at *
    generalize hu3 : t1 n es (idx ⟨z.b, d2, z.f, z.a⟩) ⟨z.b, d2, z.f, z.a⟩ = u3 at *
    generalize hu4 : t3 n es (idx z) z = u4 at *
    have hFC : FanC (waysL 0 (fine n es fs)) (n + k) w.b [u1, u2, u3, u4] := {
      mem := fun u hu => by
        simp only [List.mem_cons, List.not_mem_nil, or_false] at hu
        rcases hu with rfl | rfl | rfl | rfl
        · exact ⟨a1, a2⟩
        · exact ⟨a3, a4⟩
        · exact ⟨b1, b2⟩
        · exact ⟨b3, b4⟩
      first := fun _ => a5
      link := fun i h => by
        rcases (by simp at h; omega : i = 0 ∨ i = 1 ∨ i = 2) with rfl | rfl | rfl
        · show u2.b = u1.c; rw [a7, a6]
        · show u3.b = u2.c; rw [b5, a8, z2]
        · show u4.b = u3.c; rw [b7, b6]
      mid := fun i h => by
        rcases (by simp at h; omega : i = 0 ∨ i = 1 ∨ i = 2) with rfl | rfl | rfl
        · show u1.c ≠ _; rw [a6]; omega
        · show u2.c ≠ _; rw [a8]; exact hne
        · show u3.c ≠ _; rw [b6]; omega }
    have hnd : [u1, u2, u3, u4].Nodup := hFC.nodup fok
    have hcov : ∀ u ∈ waysL 0 (fine n es fs), u.a = n + k → u ∈ [u1, u2, u3, u4] := fun u hu ha => by
      obtain ⟨y, hy, ⟨h1, rfl⟩ | ⟨p, hp, p1, p2, p3, h1, rfl⟩⟩ := hfrom u hu ha
      · rcases same_edge ok hE hy hw (by omega) with rfl | ⟨e1, e2, _⟩
        · rw [← hu2]; simp
        · have := ok.apart.key hy hz (by rw [e1, z1]) (by rw [e2, z2])
          subst this; rw [← hu4]; simp
      · rcases same_edge ok hE hp hw (by omega) with rfl | ⟨e1, e2, _⟩
        · have := ok.fromf hy hw2 p2.symm p3.symm
          rw [← hu1, ← this]; simp
        · have := ok.apart.key hp hz (by rw [e1, z1]) (by rw [e2, z2])
          subst this
          have := ok.fromf hy hz2 p2.symm p3.symm
          rw [← hu3, ← this]; simp
    have hlen := full_len fok.apart hFC.mem hcov hnd
    obtain ⟨L, g1, g2⟩ := cover fok (by simp) hFC hlen true (fun _ => by
      show u4.c = _
      rw [b8, z1]) (fun h => by cases h)
    exact ⟨L, true, g1, g2⟩
  · generalize hu1 : t1 n es (idx ⟨w.b, d, w.f, w.a⟩) ⟨w.b, d, w.f, w.a⟩ = u1 at *
    generalize hu2 : t3 n es (idx w) w = u2 at *
    have hFC : FanC (waysL 0 (fine n es fs)) (n + k) w.b [u1, u2] := {
      mem := fun u hu => by
        simp only [List.mem_cons, List.not_mem_nil, or_false] at hu
        rcases hu with rfl | rfl
        · exact ⟨a1, a2⟩
        · exact ⟨a3, a4⟩
      first := fun _ => a5
      link := fun i h => by
        obtain rfl : i = 0 := by simp at h; omega
        show u2.b = u1.c; rw [a7, a6]
      mid := fun i h => by
        obtain rfl : i = 0 := by simp at h; omega
        show u1.c ≠ _; rw [a6]; omega }
    have hnd : [u1, u2].Nodup := hFC.nodup fok
    have hcov : ∀ u ∈ waysL 0 (fine n es fs), u.a = n + k → u ∈ [u1, u2] := fun u hu ha => by
      obtain ⟨y, hy, ⟨h1, rfl⟩ | ⟨p, hp, p1, p2, p3, h1, rfl⟩⟩ := hfrom u hu ha
      · rcases same_edge ok hE hy hw (by omega) with rfl | ⟨e1, e2, _⟩
        · rw [← hu2]; simp
        · exact absurd ⟨y, hy, e1, e2⟩ hz
      · rcases same_edge ok hE hp hw (by omega) with rfl | ⟨e1, e2, _⟩
        · have := ok.fromf hy hw2 p2.symm p3.symm
          rw [← hu1, ← this]; simp
        · exact absurd ⟨p, hp, e1, e2⟩ hz
    have hlen := full_len fok.apart hFC.mem hcov hnd
    obtain ⟨L, g1, g2⟩ := cover fok (by simp) hFC hlen false (fun h => by cases h) (fun _ => ⟨by
      show u2.c ≠ _
      rw [a8]; exact hne, fun u hu ha => by
      have := hcov u hu ha
      simp only [List.mem_cons, List.not_mem_nil, or_false] at this
      show u.b ≠ u2.c
      rw [a8]
      rcases this with rfl | rfl
      · rw [a5]; exact hne.symm
      · rw [a7]; omega⟩)
    exact ⟨L, false, g1, g2⟩
end
/-- The finer faces make a surface. -/
theorem fine_surf {n : Int} {fs : List (List Int)} {t : TopoT} (h : TopoS n fs t) : Surf (n + t.es.length + fs.length) (fine n t.es fs) := by
  refine ⟨fine_walk h.walk h.edges, fun v h0 h1 => ?_⟩
  by_cases c1 : v < n
  · obtain ⟨L, r, g1, g2⟩ := h.surf.2 v h0 c1
    obtain ⟨M, k1, k2, _⟩ := fan_old h.walk h.edges h0 c1 g1 g2
    exact ⟨M, r, k1, k2⟩
  · by_cases c2 : v < n + t.es.length
    · have := fan_edge h.walk h.edges (v - n).toNat (by omega)
      rw [show n + ((v - n).toNat : Int) = v by omega] at this
      exact this
    · have := fan_face h.walk h.edges (v - n - t.es.length).toNat (by omega)
      rw [show n + (t.es.length : Int) + ((v - n - t.es.length).toNat : Int) = v by omega] at this
      exact this
end Go.Proofs.Ytpdnaceggpdleab
namespace Go.Proofs.Ytpdnaceggpdleab
open Go.RowKit
set_option linter.unusedVariables false
set_option linter.unusedSimpArgs false
section
variable {H : Type} {enc : TypeId × Value → H} {w : World} {base : Nat} {spare : Nat → Bool} {held : Bool}
set_option maxRecDepth 100000 in
theorem open_P {r : Reach} {b0 : Nat} {v : Value} {d : DataW H} {p : List MemPlace} (hv : Value.okWide Try.prog w r b0 30 v) (h : DataW.Trod enc Try.prog w base spare held 30 v d p) : ∃ a : P3, v = .agg #[.int .i64 a.x, .int .i64 a.y, .int .i64 a.z] ∧ I3 a := by
  obtain ⟨g, rfl, hb⟩ := open_ints_agg Try.underlying30 szV lvV Try.underlying3 hv h
  have h0 := hb 0 (by omega)
  have h1 := hb 1 (by omega)
  have h2 := hb 2 (by omega)
  exact ⟨⟨g 0, g 1, g 2⟩, rfl, h0, h1, h2⟩
end
end Go.Proofs.Ytpdnaceggpdleab
namespace Go.Proofs.Ytpdnaceggpdleab
open Go.RowKit
set_option linter.unusedVariables false
set_option linter.unusedSimpArgs false
section
variable {H : Type} {enc : TypeId × Value → H} {w : World} {base : Nat} {spare : Nat → Bool} {held : Bool}
end
end Go.Proofs.Ytpdnaceggpdleab
namespace Go.Proofs.Ytpdnaceggpdleab
open Go.RowKit
set_option linter.unusedVariables false
set_option linter.unusedSimpArgs false
/-- One of the three coordinates. -/
structure Co (g : P3 → Int) : Prop where
  ad : ∀ a b, g (adW a b) = wrap64 (g a + g b)
  of : ∀ s n, g (ofP s n) = rnd (g s) n
  sc : ∀ a k, g (scW a k) = wrap64 (g a * k)
  z : g Z3 = 0
  tri : ∀ f : (P3 → Int) → Int, g (tri3 f) = f g
  inP : ∀ m p, InP m p → -m ≤ g p ∧ g p ≤ m
theorem co_x : Co P3.x := ⟨fun _ _ => rfl, fun _ _ => rfl, fun _ _ => rfl, rfl, fun _ => rfl, fun _ _ h => h.1⟩
theorem co_y : Co P3.y := ⟨fun _ _ => rfl, fun _ _ => rfl, fun _ _ => rfl, rfl, fun _ => rfl, fun _ _ h => h.2.1⟩
theorem co_z : Co P3.z := ⟨fun _ _ => rfl, fun _ _ => rfl, fun _ _ => rfl, rfl, fun _ => rfl, fun _ _ h => h.2.2⟩
theorem sum_bd (B : Int) : ∀ l : List Int, (∀ y ∈ l, -B ≤ y ∧ y ≤ B) → -(l.length * B) ≤ l.sum ∧ l.sum ≤ l.length * B
  | [], _ => by simp
  | a :: r, h => by
    have h1 := sum_bd B r (fun y hy => h y (List.mem_cons_of_mem _ hy))
    have h2 := h a (by simp)
    simp only [List.sum_cons, List.length_cons]
    have e : ((r.length + 1 : Nat) : Int) * B = (r.length : Int) * B + B := by rw [Int.natCast_add, Int.add_mul]; simp
    rw [e]; omega
theorem fold_exact (B : Int) (hB : 0 ≤ B) : ∀ (l : List Int) (s : Int), (∀ y ∈ l, -B ≤ y ∧ y ≤ B) → (-4611686018427387904 ≤ s - l.length * B ∧ s + l.length * B ≤ 4611686018427387904) → l.foldl (fun s y => wrap64 (s + y)) s = s + l.sum
  | [], s, _, _ => by simp
  | a :: r, s, h, hs => by
    have h2 := h a (by simp)
    have e : ((r.length + 1 : Nat) : Int) * B = (r.length : Int) * B + B := by rw [Int.natCast_add, Int.add_mul]; simp
    simp only [List.length_cons] at hs
    rw [e] at hs
    have hr : 0 ≤ (r.length : Int) * B := Int.mul_nonneg (by omega) hB
    have hw : wrap64 (s + a) = s + a := by unfold wrap64; omega
    rw [List.foldl_cons, hw, fold_exact B hB r (s + a) (fun y hy => h y (List.mem_cons_of_mem _ hy)) (by omega), List.sum_cons]
    omega
/-- A coordinate of a sum of points. -/
theorem co_fold {g : P3 → Int} (hg : Co g) (B : Int) (hB : 0 ≤ B) (s : P3) (l : List P3) (h : ∀ p ∈ l, -B ≤ g p ∧ g p ≤ B) (hs : -4611686018427387904 ≤ g s - l.length * B ∧ g s + l.length * B ≤ 4611686018427387904) : g (foldP s l) = g s + (l.map g).sum := by
  rw [foldP_tri g hg.ad, fold_exact B hB (l.map g) (g s) (fun y hy => by obtain ⟨p, hp, rfl⟩ := List.mem_map.1 hy; exact h p hp) (by simpa using hs)]
/-- The other ends of the edges at a vertex; of the sharp ones. -/
def othE (v : Int) (L : List (Ed × Int)) : List Int := L.filterMap fun q => other v q.1
def othS (v : Int) (L : List (Ed × Int)) : List Int := L.filterMap fun q => if q.2 = 0 then none else other v q.1
theorem starF_eq (vs : List P3) (v : Int) : ∀ (L : List (Ed × Int)) (s : St), L.foldl (starE vs v) s = ⟨foldP s.all ((othE v L).map (vat vs)), foldP s.ends ((othS v L).map (vat vs)), s.n + (othS v L).length⟩
  | [], s => rfl
  | q :: r, s => by
    rw [List.foldl_cons, starF_eq vs v r]
    unfold starE othE othS other
    by_cases h1 : q.1.a = v
    · by_cases h2 : q.2 = 0
      · simp [h1, h2, starMeet, foldP]
      · simp [h1, h2, starMeet, foldP]; omega
    · by_cases h3 : q.1.b = v
      · by_cases h2 : q.2 = 0
        · simp [h1, h2, h3, starMeet, foldP]
        · simp [h1, h2, h3, starMeet, foldP]; omega
      · simp [h1, h3]
/-- A coordinate's value by a vertex's number. -/
theorem co_vat {g : P3 → Int} (hg : Co g) {m : Int} (hm : 0 ≤ m) {vs : List P3} (h : ∀ p ∈ vs, InP m p) (v : Int) : -m ≤ g (vat vs v) ∧ g (vat vs v) ≤ m := by
  unfold vat
  rw [List.getD_eq_getElem?_getD]
  cases hq : vs[v.toNat]? with
  | none => simp only [Option.getD_none, hg.z]; omega
  | some p => exact hg.inP m p (h p (List.mem_of_getElem? hq))
/-- Rounded, a mean stays between. -/
theorem rnd_box {x n lo hi : Int} (hn : 0 < n) (hn2 : n ≤ 2305843009213693952) (h1 : lo * n ≤ x) (h2 : x ≤ hi * n) (hx : -2305843009213693952 ≤ x ∧ x ≤ 2305843009213693952) : lo ≤ rnd x n ∧ rnd x n ≤ hi := by
  rw [rnd_in (by omega)]
  constructor
  · apply (Int.le_ediv_iff_mul_le (by omega)).2
    have : lo * (2 * n) = 2 * (lo * n) := by rw [Int.mul_left_comm]
    omega
  · apply Int.le_of_lt_add_one
    apply (Int.ediv_lt_iff_lt_mul (by omega)).2
    have : (hi + 1) * (2 * n) = 2 * (hi * n) + 2 * n := by rw [Int.add_mul, Int.mul_left_comm]; omega
    omega
theorem rnd_shift {x n k : Int} (hn : 0 < n) (hn2 : n ≤ 2305843009213693952) (hx : -2305843009213693952 ≤ x ∧ x ≤ 2305843009213693952) (hy : -2305843009213693952 ≤ x + k * n ∧ x + k * n ≤ 2305843009213693952) : rnd (x + k * n) n = rnd x n + k := by
  rw [rnd_in (by omega), rnd_in (by omega)]
  rw [show 2 * (x + k * n) + n = 2 * x + n + k * (2 * n) by rw [Int.mul_left_comm]; omega]
  exact Int.add_mul_ediv_right _ _ (by omega)
theorem co_mid {g : P3 → Int} (hg : Co g) {vs : List P3} (h : ∀ p ∈ vs, InP 65536 p) (x : List Int) (hx : x.length ≤ 1000000) : g (midP vs x) = rnd ((x.map fun v => g (vat vs v)).sum) x.length := by
  rw [← mid_eq, hg.of, co_fold hg 65536 (by omega) _ _ (fun p hp => by obtain ⟨v, _, rfl⟩ := List.mem_map.1 hp; exact co_vat hg (by omega) h v) (by rw [hg.z, List.length_map]; omega), hg.z, List.map_map, Int.zero_add]
  rfl
theorem mid_in {vs : List P3} (h : ∀ p ∈ vs, InP 65536 p) (x : List Int) (hx : x.length ≤ 1000000) (hx0 : 0 < x.length) : InP 65536 (midP vs x) := by
  have key : ∀ g : P3 → Int, Co g → -65536 ≤ g (midP vs x) ∧ g (midP vs x) ≤ 65536 := fun g hg => by
    rw [co_mid hg h x hx]
    have hb := sum_bd 65536 (x.map fun v => g (vat vs v)) (fun y hy => by obtain ⟨v, _, rfl⟩ := List.mem_map.1 hy; exact co_vat hg (by omega) h v)
    rw [List.length_map] at hb
    exact rnd_box (by omega) (by omega) (by omega) (by omega) (by omega)
  exact ⟨key _ co_x, key _ co_y, key _ co_z⟩
theorem mids_in {vs : List P3} (h : ∀ p ∈ vs, InP 65536 p) (fs : List (List Int)) (hx : ∀ x ∈ fs, x.length ≤ 1000000 ∧ 0 < x.length) : ∀ p ∈ midsL vs fs, InP 65536 p := fun p hp => by
  obtain ⟨f, hf, rfl⟩ := List.mem_map.1 hp
  have hf2 : f < fs.length := by simpa using hf
  have e : fs.getD f [] = fs[f] := by rw [List.getD_eq_getElem?_getD, List.getElem?_eq_getElem hf2]; rfl
  rw [e]
  have := hx _ (List.getElem_mem hf2)
  exact mid_in h _ this.1 this.2
/-- The place of a vertex, one coordinate: what it is reckoned from. -/
def placeG (q M : Int → Int) (v : Int) (fan : List Int) (L : List (Ed × Int)) : Int :=
  if 2 < (othS v L).length then q v else if (othS v L).length = 2 then rnd (6 * q v + ((othS v L).map q).sum) 8 else q v + rnd ((fan.map M).sum + ((othE v L).map q).sum - 2 * (fan.length : Int) * q v) ((fan.length : Int) * (fan.length : Int))
theorem co_place {g : P3 → Int} (hg : Co g) {vs ms : List P3} (h : ∀ p ∈ vs, InP 65536 p) (hm : ∀ p ∈ ms, InP 65536 p) (fan : List Int) (L : List (Ed × Int)) (v : Int) (hf : fan.length ≤ 1000000) (hf0 : 0 < fan.length) (hL : L.length ≤ 1000000) :
    g (placeP (starF vs ms fan L v) (vat vs v) fan.length) = placeG (fun u => g (vat vs u)) (fun f => g (vat ms f)) v fan L := by
  have hs := starF_eq vs v L (star0 ms fan)
  have e : starF vs ms fan L v = L.foldl (starE vs v) (star0 ms fan) := rfl
  have l1 : (othE v L).length ≤ L.length := List.length_filterMap_le _ _
  have l2 : (othS v L).length ≤ L.length := List.length_filterMap_le _ _
  have hv := co_vat hg (m := 65536) (by omega) h v
  have hq : ∀ l : List Int, ∀ p ∈ l.map (vat vs), -65536 ≤ g p ∧ g p ≤ 65536 := fun l p hp => by obtain ⟨u, _, rfl⟩ := List.mem_map.1 hp; exact co_vat hg (by omega) h u
  have hM : ∀ p ∈ fan.map (vat ms), -65536 ≤ g p ∧ g p ≤ 65536 := fun p hp => by obtain ⟨u, _, rfl⟩ := List.mem_map.1 hp; exact co_vat hg (by omega) hm u
  have hends : g (starF vs ms fan L v).ends = ((othS v L).map fun u => g (vat vs u)).sum := by
    rw [e, hs]
    show g (foldP Z3 _) = _
    rw [co_fold hg 65536 (by omega) _ _ (hq _) (by rw [hg.z, List.length_map]; omega), hg.z, List.map_map, Int.zero_add]; rfl
  have hallm : g (foldP Z3 (fan.map (vat ms))) = (fan.map fun f => g (vat ms f)).sum := by
    rw [co_fold hg 65536 (by omega) _ _ hM (by rw [hg.z, List.length_map]; omega), hg.z, List.map_map, Int.zero_add]; rfl
  have bM := sum_bd 65536 (fan.map fun f => g (vat ms f)) (fun y hy => by obtain ⟨u, _, rfl⟩ := List.mem_map.1 hy; exact co_vat hg (by omega) hm u)
  have bE := sum_bd 65536 ((othE v L).map fun u => g (vat vs u)) (fun y hy => by obtain ⟨u, _, rfl⟩ := List.mem_map.1 hy; exact co_vat hg (by omega) h u)
  have bS := sum_bd 65536 ((othS v L).map fun u => g (vat vs u)) (fun y hy => by obtain ⟨u, _, rfl⟩ := List.mem_map.1 hy; exact co_vat hg (by omega) h u)
  rw [List.length_map] at bM bE bS
  have hall : g (starF vs ms fan L v).all = (fan.map fun f => g (vat ms f)).sum + ((othE v L).map fun u => g (vat vs u)).sum := by
    rw [e, hs]
    show g (foldP (foldP Z3 (fan.map (vat ms))) _) = _
    rw [co_fold hg 65536 (by omega) _ _ (hq _) (by rw [hallm, List.length_map]; omega), hallm, List.map_map]; rfl
  have hn : (starF vs ms fan L v).n = (othS v L).length := by rw [e, hs]; show 0 + _ = _; omega
  have bq := hv
  have hnn : 0 ≤ (fan.length : Int) := by omega
  unfold placeP placeG
  rw [hn]
  split
  · rfl
  · split
    · rename_i h2
      have e6 : g (scW (vat vs v) 6) = 6 * g (vat vs v) := by rw [hg.sc]; unfold wrap64; omega
      rw [hg.of, co_fold hg 65536000000 (by omega) _ _ ?_ ?_]
      · simp only [hg.z, List.map_cons, List.map_nil, List.sum_cons, List.sum_nil, e6, hends]
        congr 1; omega
      · intro p hp
        simp only [List.mem_cons, List.not_mem_nil, or_false] at hp
        rcases hp with rfl | rfl
        · rw [e6]; omega
        · rw [hends]; omega
      · rw [hg.z]; simp only [List.length_cons, List.length_nil]; omega
    · have k1 : (fan.length : Int) * g (vat vs v) ≤ (fan.length : Int) * 65536 := Int.mul_le_mul_of_nonneg_left bq.2 hnn
      have k2 : (fan.length : Int) * (-65536) ≤ (fan.length : Int) * g (vat vs v) := Int.mul_le_mul_of_nonneg_left bq.1 hnn
      have en : g (vat vs v) * (-2 * (fan.length : Int)) = -2 * ((fan.length : Int) * g (vat vs v)) := by rw [Int.mul_comm, Int.mul_assoc]
      have en2 : 2 * (fan.length : Int) * g (vat vs v) = 2 * ((fan.length : Int) * g (vat vs v)) := Int.mul_assoc ..
      have e2 : g (scW (vat vs v) (-2 * (fan.length : Int))) = -2 * ((fan.length : Int) * g (vat vs v)) := by rw [hg.sc, en]; unfold wrap64; omega
      rw [hg.ad, hg.of, co_fold hg 262144000000 (by omega) _ _ ?_ ?_]
      · simp only [hg.z, List.map_cons, List.map_nil, List.sum_cons, List.sum_nil, e2, hall, en2]
        have ex : (0 : Int) + ((fan.map fun f => g (vat ms f)).sum + ((othE v L).map fun u => g (vat vs u)).sum + (-2 * ((fan.length : Int) * g (vat vs v)) + 0)) = (fan.map fun f => g (vat ms f)).sum + ((othE v L).map fun u => g (vat vs u)).sum - 2 * ((fan.length : Int) * g (vat vs v)) := by omega
        rw [ex]
        generalize hX : (fan.map fun f => g (vat ms f)).sum + ((othE v L).map fun u => g (vat vs u)).sum - 2 * ((fan.length : Int) * g (vat vs v)) = X at *
        have hX1 : -524288000000 ≤ X ∧ X ≤ 524288000000 := by omega
        have hN1 : 1 ≤ (fan.length : Int) * (fan.length : Int) := by
          have := Int.mul_le_mul_of_nonneg_left (show 1 ≤ (fan.length : Int) by omega) hnn
          omega
        have hN2 : (fan.length : Int) * (fan.length : Int) ≤ 1000000000000 := by
          have := Int.mul_le_mul_of_nonneg_left (show (fan.length : Int) ≤ 1000000 by omega) hnn
          omega
        generalize (fan.length : Int) * (fan.length : Int) = N at *
        have hr := rnd_box (x := X) (n := N) (lo := -524288000000) (hi := 524288000000) (by omega) (by omega) (by omega) (by omega) (by omega)
        unfold wrap64; omega
      · intro p hp
        simp only [List.mem_cons, List.not_mem_nil, or_false] at hp
        rcases hp with rfl | rfl
        · rw [hall]; omega
        · rw [e2]; omega
      · rw [hg.z]; simp only [List.length_cons, List.length_nil]; omega
end Go.Proofs.Ytpdnaceggpdleab
