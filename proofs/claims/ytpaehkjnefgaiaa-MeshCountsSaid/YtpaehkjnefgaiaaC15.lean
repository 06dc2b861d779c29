/- Package mesh: what Dice answers. Calls in drawn regions by contracts at a world; what least boxes are like. Bounds, the program's and the document's; the document's fine. A mesh's triangles: Tri, the program's and the document's. The same meshes: SameMesh. The layer's laws: a flat square's patch, alive, long. -/
import Derived.Test.YtpaehkjnefgaiaaC5
import Derived.Test.YtpaehkjnefgaiaaC13
import Derived.Test.YtpaehkjnefgaiaaC14
namespace Go.Proofs.Ytpaehkjnefgaiaa
open Go.RowKit
set_option linter.unusedVariables false
set_option linter.unusedSimpArgs false
set_option linter.unnecessarySimpa false
set_option maxRecDepth 100000
theorem notint {W : World} {g j : Nat} {t : TypeId} {a1 a2 a3 : Option Addr} {n1 n2 n3 c1 c2 c3 : Nat} {x : Int} (hB : Blk W g t #[.slice a1 n1 c1, .slice a2 n2 c2, .slice a3 n3 c3]) (h : W.cell? ⟨g, j, none⟩ = some (.int .i64 x)) : False := by
  rw [hB.cell] at h
  rcases (by omega : j = 0 ∨ j = 1 ∨ j = 2 ∨ 3 ≤ j) with e | e | e | e
  · rw [e] at h; simp at h
  · rw [e] at h; simp at h
  · rw [e] at h; simp at h
  · rw [Array.getElem?_eq_none (by simpa using e)] at h; cases h
theorem VL_far {W : World} {A : Option Addr} {l : List P3} {g : Nat} {t : TypeId} {a1 a2 a3 : Option Addr} {n1 n2 n3 c1 c2 c3 : Nat} (h : VL W A l) (hB : Blk W g t #[.slice a1 n1 c1, .slice a2 n2 c2, .slice a3 n3 c3]) (cs : Array Value) : VL (W.setRow g cs) A l := fun h0 => by
  obtain ⟨b, off, e, hl, hc⟩ := h h0
  have hne : b ≠ g := by
    rintro rfl
    exact notint hB (hc 0 h0).1
  refine ⟨b, off, e, ?_, fun i hi => ?_⟩
  · have : (W.setRow g cs).heap.size = W.heap.size := size_setRow _ _ _
    omega
  · obtain ⟨h1, h2, h3⟩ := hc i hi
    exact ⟨(cell_farRow cs hne).trans h1, (cell_farRow cs hne).trans h2, (cell_farRow cs hne).trans h3⟩
theorem KL_far {W : World} {A : Option Addr} {l : List Ky} {g : Nat} {t : TypeId} {a1 a2 a3 : Option Addr} {n1 n2 n3 c1 c2 c3 : Nat} (h : KL W A l) (hB : Blk W g t #[.slice a1 n1 c1, .slice a2 n2 c2, .slice a3 n3 c3]) (cs : Array Value) : KL (W.setRow g cs) A l := fun h0 => by
  obtain ⟨b, off, e, hl, hc⟩ := h h0
  have hne : b ≠ g := by
    rintro rfl
    exact notint hB (hc 0 h0 0 (by omega))
  refine ⟨b, off, e, ?_, fun i hi j hj => (cell_farRow cs hne).trans (hc i hi j hj)⟩
  have : (W.setRow g cs).heap.size = W.heap.size := size_setRow _ _ _
  omega
theorem FrV.below {W W' : World} {base n3 : Nat} {A1 A2 A3 : Option Addr} (h : FrV W base A1 A2 A3 n3) (hb : Below W.heap.size W W') : FrV W' base A1 A2 A3 n3 := ⟨h.1, fun b o e => by
  obtain ⟨h1, h2, ⟨cs, h3⟩, h4, h5⟩ := h.2 b o e
  exact ⟨h1, h2, ⟨cs, h3.below hb⟩, h4, h5⟩⟩
theorem FrV.base {W : World} {base base' n3 : Nat} {A1 A2 A3 : Option Addr} (h : FrV W base A1 A2 A3 n3) (hb : base' ≤ base) : FrV W base' A1 A2 A3 n3 := ⟨⟨fun b o e => Nat.le_trans hb (h.1.1 b o e), fun b o e => Nat.le_trans hb (h.1.2 b o e)⟩, fun b o e => by
  obtain ⟨h1, h2, h3, h4, h5⟩ := h.2 b o e
  exact ⟨h1, Nat.le_trans hb h2, h3, h4, h5⟩⟩
theorem FrV.far {W : World} {base n3 : Nat} {A1 A2 A3 : Option Addr} (h : FrV W base A1 A2 A3 n3) {g : Nat} {t : TypeId} {cs0 : Array Value} (hB : Blk W g t cs0) (ht : 23 ≠ t) (cs : Array Value) : FrV (W.setRow g cs) base A1 A2 A3 n3 := ⟨h.1, fun b o e => by
  obtain ⟨h1, h2, ⟨cs1, h3⟩, h4, h5⟩ := h.2 b o e
  exact ⟨h1, h2, ⟨cs1, h3.farRow cs (Ne.symm (h3.ne_ hB ht))⟩, h4, h5⟩⟩
theorem MsV.below {W W' : World} {e : Ending} {m : Msh} {base : Nat} (h : MsV base W e m) (hb : Below W.heap.size W W') : MsV base W' e m := by
  obtain ⟨A1, A2, A3, c1, c2, c3, he, h1, h2, h3, h4⟩ := h
  exact ⟨A1, A2, A3, c1, c2, c3, he, h1.below hb, h2.below hb, h3.below hb, h4.below hb⟩
theorem MsV.base {W : World} {e : Ending} {m : Msh} {base base' : Nat} (h : MsV base W e m) (hb : base' ≤ base) : MsV base' W e m := by
  obtain ⟨A1, A2, A3, c1, c2, c3, he, h1, h2, h3, h4⟩ := h
  exact ⟨A1, A2, A3, c1, c2, c3, he, h1, h2, h3, h4.base hb⟩
theorem MsV.far {W : World} {e : Ending} {m : Msh} {base : Nat} (h : MsV base W e m) {g : Nat} {a1 a2 a3 : Option Addr} {n1 n2 n3 c1 c2 c3 : Nat} (hB : Blk W g 38 #[.slice a1 n1 c1, .slice a2 n2 c2, .slice a3 n3 c3]) (cs : Array Value) : MsV base (W.setRow g cs) e m := by
  obtain ⟨A1, A2, A3, d1, d2, d3, he, h1, h2, h3, h4⟩ := h
  exact ⟨A1, A2, A3, d1, d2, d3, he, VL_far h1 hB cs, KL_far h2 hB cs, L3_far h3 hB cs, h4.far hB (by decide) cs⟩
theorem MsV.form {W : World} {e : Ending} {m : Msh} {base : Nat} (h : MsV base W e m) : ∃ p q r y, e = .returned (.tuple #[.agg #[p, q, r], .int .i64 y]) ∧ p.oneCell' = true ∧ q.oneCell' = true ∧ r.oneCell' = true := by
  obtain ⟨A1, A2, A3, d1, d2, d3, he, _⟩ := h
  exact ⟨_, _, _, _, he, rfl, rfl, rfl⟩
theorem MsX.form {e : Ending} {x : Int} (h : MsX e x) : ∃ p q r y, e = .returned (.tuple #[.agg #[p, q, r], .int .i64 y]) ∧ p.oneCell' = true ∧ q.oneCell' = true ∧ r.oneCell' = true := ⟨_, _, _, _, h, rfl, rfl, rfl⟩
theorem msTx_none {ts : List TexD} {tx ht : Int} (h : tx < 0 ∨ ht = 0) : msTx ts tx ht = none := by
  unfold msTx
  rw [if_neg (by omega)]
theorem msTx_some {ts : List TexD} {tx ht : Int} (h : 0 ≤ tx ∧ 0 < ht) (hl : tx.toNat < ts.length) : msTx ts tx ht = some ts[tx.toNat] := by
  unfold msTx
  rw [if_pos h, List.getElem?_eq_getElem hl]
theorem msE_bad {P : Pch} {u h tx : Int} {ts : List TexD} (hb : tx < -1 ∨ (ts.length : Int) ≤ tx) : msE P u h tx ts = 11 := by
  unfold msE
  rw [if_pos hb]
theorem msE_err {P : Pch} {u h tx : Int} {ts : List TexD} (hb : -1 ≤ tx ∧ tx < (ts.length : Int)) (hf : msF P u h ≠ 0) : msE P u h tx ts = msF P u h := by
  unfold msE
  rw [if_neg (by omega), if_neg hf]
theorem msE_none {P : Pch} {u h tx : Int} {ts : List TexD} (hb : -1 ≤ tx ∧ tx < (ts.length : Int)) (f : Fine P u h) (hn : msTx ts tx h = none) : msE P u h tx ts = 0 := by
  unfold msE
  rw [if_neg (by omega), if_pos f.zero, hn]
theorem msE_some {P : Pch} {u h tx : Int} {ts : List TexD} {t : TexD} (hb : -1 ≤ tx ∧ tx < (ts.length : Int)) (f : Fine P u h) (hn : msTx ts tx h = some t) : msE P u h tx ts = if rightF t.W t.H t.rows = true then 0 else 11 := by
  unfold msE
  rw [if_neg (by omega), if_pos f.zero, hn]
theorem dice_any (W : World) (P : Pch) (cage id : Int) (nm : ByteArray) (ma lv un tx ht : Int) (A : Option Addr) (c : Nat) (ts : List TexD) (hts : XL W A ts) (hok : TexsOk ts) :
    Calls Try.prog 11 #[.agg P.row, .int .i64 cage, .int .i64 id, .agg (skC nm ma lv un tx ht), .slice A ts.length c] W fun e W' => Below W.heap.size W W' ∧ DiceA W.heap.size W' e (msE P un ht tx ts) (meshF P cage id un ht tx ts) := by
  by_cases hb : tx < -1 ∨ (ts.length : Int) ≤ tx
  · rw [msE_bad hb]
    exact (dice_bad W P cage id nm ma lv un tx ht A c ts.length hb).mono fun e W' ⟨h1, h2⟩ => ⟨h1, .inr ⟨by decide, h2⟩⟩
  · have hb2 : -1 ≤ tx ∧ tx < (ts.length : Int) := by omega
    by_cases hf : msF P un ht = 0
    · have f := fine_of hf
      have hq := f.q
      by_cases hn : tx < 0 ∨ ht = 0
      · have hx := msTx_none (ts := ts) hn
        rw [msE_none hb2 f hx]
        refine (dice_ok W P cage id nm ma lv un tx ht A c ts.length hb2 f (.pointer none) (.inl ⟨hn, rfl⟩) (fun w e => MsV W.heap.size w e (meshF P cage id un ht tx ts)) (fun u g hu hg hD => ?_) (fun w e w' h hbb => h.below hbb) (fun w e h => h.form) (fun w e g cs h hB => h.far hB cs)).mono fun e W' ⟨h1, h2⟩ => ⟨h1, .inl ⟨rfl, h2⟩⟩
        refine (cut_any u g P cage id (msR P.pt un) (.pointer none) ht hD hq (msV (msTx ts tx ht) ht P (msR P.pt un)) true (fun h => by cases h) (fun u2 hu2 s hs => ?_)).mono fun e W' h => ⟨h.1, h.2.base hu.size⟩
        rw [hx]
        exact vert_none u2 g P cage id (msR P.pt un) ht _ rfl (hD.below hu2) hs
      · have hh0 := f.h0
        have hy : 0 ≤ tx ∧ 0 < ht := by omega
        have hl : tx.toNat < ts.length := by omega
        have hx := msTx_some (ts := ts) hy hl
        rw [msE_some hb2 f hx]
        obtain ⟨b, off, B, m, rfl, hbl, hc, hI⟩ := hts.at_ tx.toNat hl
        have hlen := hok.2 _ (List.getElem_mem hl)
        have hT : TexAt W b (off + tx.toNat * 4) ts[tx.toNat] B m := ⟨hbl, hc, hI, hlen⟩
        unfold meshF
        rw [hx]
        generalize ts[tx.toNat] = t at *
        cases hr : rightF t.W t.H t.rows
        · rw [if_neg (by simp)]
          refine (dice_ok W P cage id nm ma lv un tx ht _ c ts.length hb2 f (.pointer (some ⟨b, off + tx.toNat * 4, none⟩)) (.inr ⟨hy, b, off, rfl, rfl⟩) (fun w e => MsX e 11) (fun u g hu hg hD => ?_) (fun w e w' h hbb => h) (fun w e h => h.form) (fun w e g cs h hB => h)).mono fun e W' ⟨h1, h2⟩ => ⟨h1, .inr ⟨by decide, h2⟩⟩
          refine (cut_any u g P cage id (msR P.pt un) _ ht hD hq (fun _ => N3) false (fun _ _ => rfl) (fun u2 hu2 s hs => ?_)).mono fun e W' h => h
          have := vert_some u2 g P cage id (msR P.pt un) ht b (off + tx.toNat * 4) t B m (hT.below (bel_trans hu hu2)) _ rfl (hD.below hu2) hq hs (by have := f.h1; omega) false (tex_bad hr _) (fun h => by cases h) (fun h => by cases h)
          exact this
        · rw [if_pos rfl]
          refine (dice_ok W P cage id nm ma lv un tx ht _ c ts.length hb2 f (.pointer (some ⟨b, off + tx.toNat * 4, none⟩)) (.inr ⟨hy, b, off, rfl, rfl⟩) (fun w e => MsV W.heap.size w e ⟨(spotsW (msr P.pt un)).map (msV (some t) ht P (msR P.pt un)), (spotsW (msr P.pt un)).map (msK P.co cage id (msR P.pt un)), (trisW (msr P.pt un)).map trZ⟩) (fun u g hu hg hD => ?_) (fun w e w' h hbb => h.below hbb) (fun w e h => h.form) (fun w e g cs h hB => h.far hB cs)).mono fun e W' ⟨h1, h2⟩ => ⟨h1, .inl ⟨rfl, h2⟩⟩
          refine (cut_any u g P cage id (msR P.pt un) _ ht hD hq (msV (some t) ht P (msR P.pt un)) true (fun h => by cases h) (fun u2 hu2 s hs => ?_)).mono fun e W' h => ⟨h.1, h.2.base hu.size⟩
          obtain ⟨k1, k2⟩ := lift_ok f hs hr
          have := vert_some u2 g P cage id (msR P.pt un) ht b (off + tx.toNat * 4) t B m (hT.below (bel_trans hu hu2)) _ rfl (hD.below hu2) hq hs (by have := f.h1; omega) true k1 (fun _ => k2) (fun _ => (tex_lit hr (wB_mono (msP_wi f hs) (by omega))).2)
          exact this
    · rw [msE_err hb2 hf]
      exact (dice_err W P cage id nm ma lv un tx ht A c ts.length hb2 (msF P un ht) rfl hf).mono fun e W' ⟨h1, h2⟩ => ⟨h1, .inr ⟨hf, h2⟩⟩
end Go.Proofs.Ytpaehkjnefgaiaa
namespace Go.Proofs.Ytpaehkjnefgaiaa
open Go.RowKit
set_option linter.unusedVariables false
set_option linter.unusedSimpArgs false
section
variable {P : Program} {f : FuncId} {args : Array Value} {v : Value} {w : World}
theorem q1 {y : More} (h : Calls P f args (grow w y) fun e w'' => e = .returned v ∧ ∃ z, w'' = grow (grow w y) z) : Calls P f args (grow w y) fun e w'' => e = .returned v ∧ ∃ z, w'' = grow w z :=
  h.mono fun _ _ ⟨he, z, hz⟩ => ⟨he, y.then z, hz⟩
theorem q2 {x y : More} (h : Calls P f args (grow w (x.then y)) fun e w'' => e = .returned v ∧ ∃ z, w'' = grow (grow w (x.then y)) z) : Calls P f args (grow w (x.then y)) fun e w'' => e = .returned v ∧ ∃ z, w'' = grow w (x.then z) :=
  h.mono fun _ _ ⟨he, z, hz⟩ => ⟨he, y.then z, hz⟩
end
/-! least boxes -/
def inP (b : (Int × Int × Int) × (Int × Int × Int)) (q : Int × Int × Int) : Prop := (b.1.1 ≤ q.1 ∧ q.1 ≤ b.2.1) ∧ (b.1.2.1 ≤ q.2.1 ∧ q.2.1 ≤ b.2.2.1) ∧ b.1.2.2 ≤ q.2.2 ∧ q.2.2 ≤ b.2.2.2
theorem inP_join_left {b : (Int × Int × Int) × (Int × Int × Int)} {q r : Int × Int × Int} (h : inP b r) : inP (joinP b q) r := by
  unfold inP joinP at *; simp only []; omega
theorem inP_join_right {b : (Int × Int × Int) × (Int × Int × Int)} {q : Int × Int × Int} : inP (joinP b q) q := by
  unfold inP joinP; simp only []; omega
theorem boxF_has (p : Nat → Int × Int × Int) : ∀ n i, i ≤ n → inP (boxF p n) (p i)
  | 0, i, h => by
    obtain rfl : i = 0 := by omega
    unfold inP boxF; simp only []; omega
  | n + 1, i, h => by
    by_cases hi : i ≤ n
    · exact inP_join_left (boxF_has p n i hi)
    · obtain rfl : i = n + 1 := by omega
      exact inP_join_right
theorem boxF_touch (p : Nat → Int × Int × Int) : ∀ n, (∃ i, i ≤ n ∧ (p i).1 = (boxF p n).1.1) ∧ (∃ i, i ≤ n ∧ (p i).2.1 = (boxF p n).1.2.1) ∧ (∃ i, i ≤ n ∧ (p i).2.2 = (boxF p n).1.2.2) ∧ (∃ i, i ≤ n ∧ (p i).1 = (boxF p n).2.1) ∧ (∃ i, i ≤ n ∧ (p i).2.1 = (boxF p n).2.2.1) ∧ ∃ i, i ≤ n ∧ (p i).2.2 = (boxF p n).2.2.2
  | 0 => ⟨⟨0, by omega, rfl⟩, ⟨0, by omega, rfl⟩, ⟨0, by omega, rfl⟩, ⟨0, by omega, rfl⟩, ⟨0, by omega, rfl⟩, ⟨0, by omega, rfl⟩⟩
  | n + 1 => by
    obtain ⟨⟨i0, a0, b0⟩, ⟨i1, a1, b1⟩, ⟨i2, a2, b2⟩, ⟨i3, a3, b3⟩, ⟨i4, a4, b4⟩, i5, a5, b5⟩ := boxF_touch p n
    have lo : ∀ (x y : Int) (f : Nat → Int) (i : Nat), i ≤ n → f i = x → ∃ j, j ≤ n + 1 ∧ f j = min x (f (n + 1)) := fun x y f i hi hf => by
      by_cases h : x ≤ f (n + 1)
      · exact ⟨i, by omega, by rw [hf]; omega⟩
      · exact ⟨n + 1, by omega, by omega⟩
    have hi : ∀ (x y : Int) (f : Nat → Int) (i : Nat), i ≤ n → f i = x → ∃ j, j ≤ n + 1 ∧ f j = max x (f (n + 1)) := fun x y f i hi hf => by
      by_cases h : f (n + 1) ≤ x
      · exact ⟨i, by omega, by rw [hf]; omega⟩
      · exact ⟨n + 1, by omega, by omega⟩
    exact ⟨lo _ 0 (fun i => (p i).1) i0 a0 b0, lo _ 0 (fun i => (p i).2.1) i1 a1 b1, lo _ 0 (fun i => (p i).2.2) i2 a2 b2, hi _ 0 (fun i => (p i).1) i3 a3 b3, hi _ 0 (fun i => (p i).2.1) i4 a4 b4, hi _ 0 (fun i => (p i).2.2) i5 a5 b5⟩
/-! two rows one behind the other -/
end Go.Proofs.Ytpaehkjnefgaiaa
namespace Go.Proofs.Ytpaehkjnefgaiaa
open Go.RowKit
set_option linter.unusedVariables false
set_option linter.unusedSimpArgs false
set_option linter.unnecessarySimpa false
set_option maxRecDepth 100000
def ptT (P : Pch) (k : Nat) : Int × Int × Int := ((P.pt k).x, (P.pt k).y, (P.pt k).z)
def bLo (P : Pch) : P3 := ⟨(boxF (ptT P) 15).1.1, (boxF (ptT P) 15).1.2.1, (boxF (ptT P) 15).1.2.2⟩
def bHi (P : Pch) : P3 := ⟨(boxF (ptT P) 15).2.1, (boxF (ptT P) 15).2.2.1, (boxF (ptT P) 15).2.2.2⟩
def bxLo (P : Pch) (h : Int) : P3 := ⟨(bLo P).x - (h + 2), (bLo P).y - (h + 2), (bLo P).z - (h + 2)⟩
def bxHi (P : Pch) (h : Int) : P3 := ⟨(bHi P).x + (h + 2), (bHi P).y + (h + 2), (bHi P).z + (h + 2)⟩
theorem VF_pch {W : World} {b : Nat} {P : Pch} (h : PchB W b 0 P) : VF W (some ⟨b, 0, none⟩) 16 (ptT P) := fun _ => by
  refine ⟨b, 0, rfl, h.1, fun i hi => ?_⟩
  obtain ⟨h1, h2, h3⟩ := h.pt hi
  exact ⟨h1, h2, h3⟩
theorem Fine.box {P : Pch} {u h : Int} (f : Fine P u h) : (∀ k, k < 16 → ((bLo P).x ≤ (P.pt k).x ∧ (P.pt k).x ≤ (bHi P).x) ∧ ((bLo P).y ≤ (P.pt k).y ∧ (P.pt k).y ≤ (bHi P).y) ∧ (bLo P).z ≤ (P.pt k).z ∧ (P.pt k).z ≤ (bHi P).z) ∧ InP 60000 (bLo P) ∧ InP 60000 (bHi P) := by
  have hp := fun k (hk : k < 16) => (wB_iff.1 (f.pt k hk)).2
  obtain ⟨⟨a, ha, ea⟩, ⟨b, hb, eb⟩, ⟨c, hc, ec⟩, ⟨d, hd, ed⟩, ⟨e, he, ee⟩, ⟨g, hg, eg⟩⟩ := boxF_touch (ptT P) 15
  refine ⟨fun k hk => boxF_has (ptT P) 15 k (by omega), ⟨?_, ?_, ?_⟩, ?_, ?_, ?_⟩
  · show -60000 ≤ (boxF (ptT P) 15).1.1 ∧ (boxF (ptT P) 15).1.1 ≤ 60000
    rw [← ea]; exact (hp a (by omega)).1
  · show -60000 ≤ (boxF (ptT P) 15).1.2.1 ∧ (boxF (ptT P) 15).1.2.1 ≤ 60000
    rw [← eb]; exact (hp b (by omega)).2.1
  · show -60000 ≤ (boxF (ptT P) 15).1.2.2 ∧ (boxF (ptT P) 15).1.2.2 ≤ 60000
    rw [← ec]; exact (hp c (by omega)).2.2
  · show -60000 ≤ (boxF (ptT P) 15).2.1 ∧ (boxF (ptT P) 15).2.1 ≤ 60000
    rw [← ed]; exact (hp d (by omega)).1
  · show -60000 ≤ (boxF (ptT P) 15).2.2.1 ∧ (boxF (ptT P) 15).2.2.1 ≤ 60000
    rw [← ee]; exact (hp e (by omega)).2.1
  · show -60000 ≤ (boxF (ptT P) 15).2.2.2 ∧ (boxF (ptT P) 15).2.2.2 ≤ 60000
    rw [← eg]; exact (hp g (by omega)).2.2
theorem Fine.sub_in {P : Pch} {u h : Int} (f : Fine P u h) : InP 4611686018427387904 (sb (bLo P) ⟨h + 2, h + 2, h + 2⟩) := by
  obtain ⟨_, ⟨a, b, c⟩, _⟩ := f.box
  have h0 := f.h0
  have h1 := f.h1
  unfold InP sb
  simp only
  omega
theorem Fine.add_in {P : Pch} {u h : Int} (f : Fine P u h) : InP 4611686018427387904 (adE (bHi P) ⟨h + 2, h + 2, h + 2⟩) := by
  obtain ⟨_, _, ⟨a, b, c⟩⟩ := f.box
  have h0 := f.h0
  have h1 := f.h1
  unfold InP adE
  simp only
  omega
theorem sb_inM {a b : P3} (h : InP 4611686018427387904 (sb a b)) : wrap64 (a.x - b.x) = (sb a b).x ∧ wrap64 (a.y - b.y) = (sb a b).y ∧ wrap64 (a.z - b.z) = (sb a b).z := by
  obtain ⟨h1, h2, h3⟩ := h
  unfold sb at *
  simp only at *
  exact ⟨wrap_id (by omega) (by omega), wrap_id (by omega) (by omega), wrap_id (by omega) (by omega)⟩
theorem vSub_Q (a b : P3) (h : InP 4611686018427387904 (sb a b)) : Gives Try.prog 34 #[.agg #[.int .i64 a.x, .int .i64 a.y, .int .i64 a.z], .agg #[.int .i64 b.x, .int .i64 b.y, .int .i64 b.z]] (.agg #[.int .i64 (sb a b).x, .int .i64 (sb a b).y, .int .i64 (sb a b).z]) := by
  have k := vSub_any a.x a.y a.z b.x b.y b.z
  obtain ⟨h1, h2, h3⟩ := sb_inM h
  rwa [h1, h2, h3] at k
theorem vAdd_r' (a b : P3) (h : InP 4611686018427387904 (adE a b)) : Gives Try.prog 35 #[.agg #[.int .i64 a.x, .int .i64 a.y, .int .i64 a.z], .agg #[.int .i64 b.x, .int .i64 b.y, .int .i64 b.z]] (.agg #[.int .i64 ((⟨a.x + b.x, a.y + b.y, a.z + b.z⟩ : P3)).x, .int .i64 ((⟨a.x + b.x, a.y + b.y, a.z + b.z⟩ : P3)).y, .int .i64 ((⟨a.x + b.x, a.y + b.y, a.z + b.z⟩ : P3)).z]) := vAdd_r h
theorem infoBx {a b c d e f : Value} : (Try.prog.info? 43).map (·.size) = some (#[a, b, c, d, e, f] : Array Value).size := by kernel_rfl
theorem built_Bx (a b : P3) : Try.prog.built 43 [(0, .agg #[.int .i64 a.x, .int .i64 a.y, .int .i64 a.z]), (1, .agg #[.int .i64 b.x, .int .i64 b.y, .int .i64 b.z])] = some #[.int .i64 a.x, .int .i64 a.y, .int .i64 a.z, .int .i64 b.x, .int .i64 b.y, .int .i64 b.z] := by kernel_rfl
theorem putBx {ops : Array Oper} {rest : List Oper} {o : Oper} {a : Act} {w : World} {Q : Exit → Act → World → Prop} (hgd : o.guard = none) (x y : Operand) (ho : o.op = .store 43 x y) (g : Nat) (p q : P3) (hx : a.eval x = .pointer (some ⟨g, 0, none⟩)) (hy : a.eval y = .agg #[.int .i64 p.x, .int .i64 p.y, .int .i64 p.z, .int .i64 q.x, .int .i64 q.y, .int .i64 q.z]) (old : Array Value) (hs : old.size = 6) (h : Blk w g 43 old)
    (K : wpList Try.prog ops Q rest (a.put o.dst undef) (w.setRow g #[.int .i64 p.x, .int .i64 p.y, .int .i64 p.z, .int .i64 q.x, .int .i64 q.y, .int .i64 q.z])) : wpList Try.prog ops Q (o :: rest) a w :=
  wpList_store_row hgd 43 x y ho g _ hx hy 43 old h infoBx hs (by simp [Value.oneCell']) K
theorem ret2B {fn : Func} {p u : Tmp} (h : fn.results = #[.cell p 43, .tmp u]) (tmps : Array Value) (w : World) (g : Nat) (l r : P3) (b : Value) (hp : tmps.getD p undef = .pointer (some ⟨g, 0, none⟩)) (hb : tmps.getD u undef = b) (hB : Blk w g 43 #[.int .i64 l.x, .int .i64 l.y, .int .i64 l.z, .int .i64 r.x, .int .i64 r.y, .int .i64 r.z]) :
    (results fn tmps).run Try.prog w = .ok (.tuple #[.agg #[.int .i64 l.x, .int .i64 l.y, .int .i64 l.z, .int .i64 r.x, .int .i64 r.y, .int .i64 r.z], b]) w := by
  have hl := run_loadVar_row (P := Try.prog) w g 43 43 #[.int .i64 l.x, .int .i64 l.y, .int .i64 l.z, .int .i64 r.x, .int .i64 r.y, .int .i64 r.z] (0, 0) _ hB Try.underlying43 rfl infoBx
  rw [results_cell_tmp h, hp, hb]
  simp [asAddr, hl, Result.andThen]
set_option maxHeartbeats 8000000 in
theorem bounds_ok (W : World) (P : Pch) (nm : ByteArray) (ma lv un tx ht : Int) (fi : Fine P un ht) :
    Calls Try.prog 13 #[.agg P.row, .agg (skC nm ma lv un tx ht)] W fun e W' => e = .returned (.tuple #[.agg #[.int .i64 (bxLo P ht).x, .int .i64 (bxLo P ht).y, .int .i64 (bxLo P ht).z, .int .i64 (bxHi P ht).x, .int .i64 (bxHi P ht).y, .int .i64 (bxHi P ht).z], .int .i64 0]) ∧ Below W.heap.size W W' := by
  obtain ⟨W0, hW0⟩ : ∃ W0, W0 = ((W.alloc (.cells P.row 28)).alloc (.cells (skC nm ma lv un tx ht) 30)).alloc (.cells #[.int .i64 0, .int .i64 0, .int .i64 0, .int .i64 0, .int .i64 0, .int .i64 0] 43) := ⟨_, rfl⟩
  have hb0 : Below W.heap.size W W0 := by rw [hW0]; exact bel_alloc (bel_alloc (bel_alloc (Below.refl _ _) _) _) _
  have hP0 : PchB W0 W.heap.size 0 P := by rw [hW0]; exact PchB.of (((Blk.new _ _ _ _ rfl).alloc _).alloc _)
  have hS0 : Blk W0 (W.heap.size + 1) 30 (skC nm ma lv un tx ht) := by rw [hW0]; exact (Blk.new _ _ _ _ (by simp)).alloc _
  have hR0 : Blk W0 (W.heap.size + 1 + 1) 43 #[.int .i64 0, .int .i64 0, .int .i64 0, .int .i64 0, .int .i64 0, .int .i64 0] := by rw [hW0]; exact Blk.new _ _ _ _ (by simp)
  have kF := fault_any P nm ma lv un tx ht
  rw [fi.zero] at kF
  obtain ⟨o, ho⟩ : ∃ o : P3, o = ⟨ht + 2, ht + 2, ht + 2⟩ := ⟨_, rfl⟩
  have kS : Gives Try.prog 34 #[.agg #[.int .i64 (bLo P).x, .int .i64 (bLo P).y, .int .i64 (bLo P).z], .agg #[.int .i64 o.x, .int .i64 o.y, .int .i64 o.z]] (.agg #[.int .i64 (bxLo P ht).x, .int .i64 (bxLo P ht).y, .int .i64 (bxLo P ht).z]) := by
    have := vSub_Q (bLo P) o (by rw [ho]; exact fi.sub_in)
    rw [show bxLo P ht = sb (bLo P) o by rw [ho]; rfl]
    exact this
  have kA : Gives Try.prog 35 #[.agg #[.int .i64 (bHi P).x, .int .i64 (bHi P).y, .int .i64 (bHi P).z], .agg #[.int .i64 o.x, .int .i64 o.y, .int .i64 o.z]] (.agg #[.int .i64 (bxHi P ht).x, .int .i64 (bxHi P ht).y, .int .i64 (bxHi P ht).z]) := by
    have := vAdd_r' (bHi P) o (by rw [ho]; exact fi.add_in)
    rw [show bxHi P ht = ⟨(bHi P).x + o.x, (bHi P).y + o.y, (bHi P).z + o.z⟩ by rw [ho]; rfl]
    exact this
  replace ho := Lib.hid ho
  have kB := fun (u : World) (b : Nat) (hu : PchB u b 0 P) => vBound_some u (some ⟨b, 0, none⟩) 15 16 (ptT P) (VF_pch hu) (by omega) (by omega)
  have hh0 := fi.h0
  have hh1 := fi.h1
  have hlo : bLo P = ⟨(boxF (ptT P) 15).1.1, (boxF (ptT P) 15).1.2.1, (boxF (ptT P) 15).1.2.2⟩ := rfl
  have hhi : bHi P = ⟨(boxF (ptT P) 15).2.1, (boxF (ptT P) 15).2.2.1, (boxF (ptT P) 15).2.2.2⟩ := rfl
  generalize bxLo P ht = lx at *
  generalize bxHi P ht = hx at *
  replace kB : ∀ (u : World) (b : Nat), PchB u b 0 P → Calls Try.prog 33 #[.slice (some ⟨b, 0, none⟩) 16 16] u fun e w' => e = .returned (.tuple #[.agg #[.int .i64 (bLo P).x, .int .i64 (bLo P).y, .int .i64 (bLo P).z, .int .i64 (bHi P).x, .int .i64 (bHi P).y, .int .i64 (bHi P).z], .bool true]) ∧ ∃ x, w' = grow u x := kB
  clear hlo hhi
  generalize bLo P = lo at *
  generalize bHi P = hi at *
  go_enter Try.func13, Try.ntmps13
  go_upto_region 1 with (fail)
  simp only [← hW0]
  clear hW0
  obtain ⟨bp, hbp⟩ : ∃ b, b = W.heap.size := ⟨_, rfl⟩
  rw [← hbp] at hP0 hS0 hR0
  simp only [← hbp]
  have hbW : W.heap.size ≤ bp := by omega
  replace hbp := Lib.hid hbp
  go_upto_region 4 with (first | (refine getPt rfl _ rfl bp rfl P hP0 ?_; simp only [Act.put, List.setIfInBounds_toArray, List.set_cons_succ, List.set_cons_zero]) | (refine getSk rfl _ rfl (bp + 1) rfl nm ma lv un tx ht hS0 ?_; simp only [Act.put, List.setIfInBounds_toArray, List.set_cons_succ, List.set_cons_zero]) | (go_at_call 23; (with_reducible refine (kF.at_ _).mono ?_); rintro e w1 ⟨rfl, xf, rfl⟩) | fail)
  have hP1 : PchB (grow W0 xf) bp 0 P := hP0.below (xf.kept W0)
  have hS1 := hS0.grow xf
  have hR1 := hR0.grow xf
  have hb1 := bel_grow hb0 xf
  clear hP0 hS0 hR0 hb0 kF
  generalize grow W0 xf = W1 at *
  have kB1 := kB W1 bp hP1
  go_upto_region 5 with (first | (go_at_call 33; (with_reducible refine kB1.mono ?_); rintro e w' ⟨rfl, xg, rfl⟩) | fail)
  have hbx := bel_alloc (bel_grow hb1 xg) (.cells #[.int .i64 lo.x, .int .i64 lo.y, .int .i64 lo.z, .int .i64 hi.x, .int .i64 hi.y, .int .i64 hi.z] 43)
  have hS2 := (hS1.grow xg).alloc (.cells #[.int .i64 lo.x, .int .i64 lo.y, .int .i64 lo.z, .int .i64 hi.x, .int .i64 hi.y, .int .i64 hi.z] 43)
  have hrb := (hR1.grow xg).alloc (.cells #[.int .i64 lo.x, .int .i64 lo.y, .int .i64 lo.z, .int .i64 hi.x, .int .i64 hi.y, .int .i64 hi.z] 43)
  have hbb : Blk ((grow W1 xg).alloc (.cells #[.int .i64 lo.x, .int .i64 lo.y, .int .i64 lo.z, .int .i64 hi.x, .int .i64 hi.y, .int .i64 hi.z] 43)) (grow W1 xg).heap.size 43 #[.int .i64 lo.x, .int .i64 lo.y, .int .i64 lo.z, .int .i64 hi.x, .int .i64 hi.y, .int .i64 hi.z] := Blk.new _ _ _ _ rfl
  have hlt : bp + 1 + 1 < (grow W1 xg).heap.size := (hR1.grow xg).lt
  clear hP1 hS1 hR1 hb1 kB kB1
  generalize (grow W1 xg).alloc (.cells #[.int .i64 lo.x, .int .i64 lo.y, .int .i64 lo.z, .int .i64 hi.x, .int .i64 hi.y, .int .i64 hi.z] 43) = W2 at *
  generalize (grow W1 xg).heap.size = bb at *
  have s5 : W2.cell? ⟨bp + 1, 5, none⟩ = some (.int .i64 ht) := hS2.cell 5
  have sl := hS2.lt
  go_upto_region 7 with (fail)
  have hox : (.int .i64 (ht + 2) : Value) = .int .i64 o.x ∧ (.int .i64 (ht + 2) : Value) = .int .i64 o.y ∧ (.int .i64 (ht + 2) : Value) = .int .i64 o.z := by rw [ho.out]; exact ⟨rfl, rfl, rfl⟩
  have hvb : Blk (W2.alloc (.cells #[.int .i64 (ht + 2), .int .i64 (ht + 2), .int .i64 (ht + 2)] 23)) W2.heap.size 23 #[.int .i64 o.x, .int .i64 o.y, .int .i64 o.z] := by rw [← hox.1, ← hox.2.1, ← hox.2.2]; exact Blk.new _ _ _ _ rfl
  replace hbx := bel_alloc hbx (.cells #[.int .i64 (ht + 2), .int .i64 (ht + 2), .int .i64 (ht + 2)] 23)
  have hlt2 := hbb.lt
  replace hbb := hbb.alloc (.cells #[.int .i64 (ht + 2), .int .i64 (ht + 2), .int .i64 (ht + 2)] 23)
  have hlt3 := hrb.lt
  replace hrb := hrb.alloc (.cells #[.int .i64 (ht + 2), .int .i64 (ht + 2), .int .i64 (ht + 2)] 23)
  clear s5 sl hS2 hox ho
  generalize W2.alloc (.cells #[.int .i64 (ht + 2), .int .i64 (ht + 2), .int .i64 (ht + 2)] 23) = W3 at *
  generalize W2.heap.size = vb at *
  obtain ⟨rb, hrbe⟩ : ∃ r, r = bp + 1 + 1 := ⟨_, rfl⟩
  rw [← hrbe] at hrb hlt hlt3
  simp only [← hrbe]
  have hrW : W.heap.size ≤ rb := by omega
  have nrb : rb ≠ bb := by omega
  have nrv : rb ≠ vb := by omega
  replace hrbe := Lib.hid hrbe
  refine wp_region_monoK2 11 (RKW [.pointer (some ⟨bb, 0, none⟩), .agg #[.int .i64 lo.x, .int .i64 lo.y, .int .i64 lo.z], .agg #[.int .i64 o.x, .int .i64 o.y, .int .i64 o.z], .agg #[.int .i64 lx.x, .int .i64 lx.y, .int .i64 lx.z], .pointer (some ⟨bb, 3, none⟩), .agg #[.int .i64 hi.x, .int .i64 hi.y, .int .i64 hi.z], .agg #[.int .i64 o.x, .int .i64 o.y, .int .i64 o.z], .agg #[.int .i64 hx.x, .int .i64 hx.y, .int .i64 hx.z], .agg #[.int .i64 lx.x, .int .i64 lx.y, .int .i64 lx.z, .int .i64 hx.x, .int .i64 hx.y, .int .i64 hx.z], .int .i64 0, .int .i64 0]) (JK (fun u => Below W.heap.size W u ∧ Blk u bb 43 #[.int .i64 lo.x, .int .i64 lo.y, .int .i64 lo.z, .int .i64 hi.x, .int .i64 hi.y, .int .i64 hi.z] ∧ Blk u vb 23 #[.int .i64 o.x, .int .i64 o.y, .int .i64 o.z]) 9 (fun u => Blk u rb 43 #[.int .i64 0, .int .i64 0, .int .i64 0, .int .i64 0, .int .i64 0, .int .i64 0]) (fun u => Blk u rb 43 #[.int .i64 lx.x, .int .i64 lx.y, .int .i64 lx.z, .int .i64 hx.x, .int .i64 hx.y, .int .i64 hx.z])) (by kernel_rfl) _ rfl (by kernel_rfl) (by kernel_rfl) (by kernel_rfl) (by kernel_rfl) (by kernel_rfl) (jk_start (by decide) (⟨bel_dr hbx _, hbb, hvb⟩) (hrb)) ?_ ?_
  · simp only [List.take_succ_cons, List.take_zero]
    refine ⟨?_, ?_, ?_, ?_, ?_, ?_, ?_, ?_, ?_, ?_, ?_, ?_⟩
    · refine jk_val rfl (by decide) (fun a u hF hk hp => ?_)
      have es7 := (hk 7 (keep_of (by kernel_rfl))).trans (show _ = some (.pointer (some ⟨bb, 0, none⟩)) from rfl)
      exact ⟨_, by simp [execOp, go_sem, es7], rfl⟩
    · refine jk_val rfl (by decide) (fun a u hF hk hp => ?_)
      obtain ⟨x0, ex0, rx0⟩ := hp ⟨0, .data⟩ (by simp) rfl _ _ rfl rfl
      obtain rfl : x0 = _ := rx0
      exact ⟨.agg (#[.int .i64 lo.x, .int .i64 lo.y, .int .i64 lo.z]), loadR_run _ _ 23 _ Try.underlying23 rfl _ rfl bb 0 (eval_tmp ex0) (#[.int .i64 lo.x, .int .i64 lo.y, .int .i64 lo.z]) (infoVm) u (rng3W (hF.2.1.cell 0) (hF.2.1.cell 1) (hF.2.1.cell 2)), rfl⟩
    · refine jk_val rfl (by decide) (fun a u hF hk hp => ?_)
      have es10 := (hk 10 (keep_of (by kernel_rfl))).trans (show _ = some (.pointer (some ⟨vb, 0, none⟩)) from rfl)
      exact ⟨.agg (#[.int .i64 o.x, .int .i64 o.y, .int .i64 o.z]), loadR_run _ _ 23 _ Try.underlying23 rfl _ rfl vb 0 (eval_tmp es10) (#[.int .i64 o.x, .int .i64 o.y, .int .i64 o.z]) (infoVm) u (rng_blkM hF.2.2), rfl⟩
    · refine jk_call rfl (by decide) (grows_and (grows_bel _) (grows_and (grows_blk _ _ _) (grows_blk _ _ _))) (grows_blk _ _ _) (grows_blk _ _ _) (fun a u hF hk hp => ?_)
      obtain ⟨x1, ex1, rx1⟩ := hp ⟨1, .data⟩ (by simp) rfl _ _ rfl rfl
      obtain rfl : x1 = _ := rx1
      obtain ⟨x2, ex2, rx2⟩ := hp ⟨2, .data⟩ (by simp) rfl _ _ rfl rfl
      obtain rfl : x2 = _ := rx2
      exact ⟨34, #[.agg #[.int .i64 lo.x, .int .i64 lo.y, .int .i64 lo.z], .agg #[.int .i64 o.x, .int .i64 o.y, .int .i64 o.z]], _, by simp [execOp, go_sem, ex1, ex2], gcall kS u, rfl⟩
    · refine jk_val rfl (by decide) (fun a u hF hk hp => ?_)
      have es7 := (hk 7 (keep_of (by kernel_rfl))).trans (show _ = some (.pointer (some ⟨bb, 0, none⟩)) from rfl)
      exact ⟨_, by simp [execOp, go_sem, es7], rfl⟩
    · refine jk_val rfl (by decide) (fun a u hF hk hp => ?_)
      obtain ⟨x4, ex4, rx4⟩ := hp ⟨4, .data⟩ (by simp) rfl _ _ rfl rfl
      obtain rfl : x4 = _ := rx4
      exact ⟨.agg (#[.int .i64 hi.x, .int .i64 hi.y, .int .i64 hi.z]), loadR_run _ _ 23 _ Try.underlying23 rfl _ rfl bb 3 (eval_tmp ex4) (#[.int .i64 hi.x, .int .i64 hi.y, .int .i64 hi.z]) (infoVm) u (rng3W (hF.2.1.cell 3) (hF.2.1.cell 4) (hF.2.1.cell 5)), rfl⟩
    · refine jk_val rfl (by decide) (fun a u hF hk hp => ?_)
      have es10 := (hk 10 (keep_of (by kernel_rfl))).trans (show _ = some (.pointer (some ⟨vb, 0, none⟩)) from rfl)
      exact ⟨.agg (#[.int .i64 o.x, .int .i64 o.y, .int .i64 o.z]), loadR_run _ _ 23 _ Try.underlying23 rfl _ rfl vb 0 (eval_tmp es10) (#[.int .i64 o.x, .int .i64 o.y, .int .i64 o.z]) (infoVm) u (rng_blkM hF.2.2), rfl⟩
    · refine jk_call rfl (by decide) (grows_and (grows_bel _) (grows_and (grows_blk _ _ _) (grows_blk _ _ _))) (grows_blk _ _ _) (grows_blk _ _ _) (fun a u hF hk hp => ?_)
      obtain ⟨x5, ex5, rx5⟩ := hp ⟨5, .data⟩ (by simp) rfl _ _ rfl rfl
      obtain rfl : x5 = _ := rx5
      obtain ⟨x6, ex6, rx6⟩ := hp ⟨6, .data⟩ (by simp) rfl _ _ rfl rfl
      obtain rfl : x6 = _ := rx6
      exact ⟨35, #[.agg #[.int .i64 hi.x, .int .i64 hi.y, .int .i64 hi.z], .agg #[.int .i64 o.x, .int .i64 o.y, .int .i64 o.z]], _, by simp [execOp, go_sem, ex5, ex6], gcall kA u, rfl⟩
    · refine jk_val rfl (by decide) (fun a u hF hk hp => ?_)
      obtain ⟨x3, ex3, rx3⟩ := hp ⟨3, .data⟩ (by simp) rfl _ _ rfl rfl
      obtain rfl : x3 = _ := rx3
      obtain ⟨x7, ex7, rx7⟩ := hp ⟨7, .data⟩ (by simp) rfl _ _ rfl rfl
      obtain rfl : x7 = _ := rx7
      exact ⟨_, build_of _ _ rfl u _ (by simp only [List.map_toArray, List.map_cons, List.map_nil, eval_tmp ex3, eval_tmp ex7]; exact built_Bx _ _), rfl⟩
    · refine jk_store rfl rfl (fun a u hF hA hk hp => ?_)
      have es4 := (hk 4 (keep_of (by kernel_rfl))).trans (show _ = some (.pointer (some ⟨rb, 0, none⟩)) from rfl)
      obtain ⟨x8, ex8, rx8⟩ := hp ⟨8, .data⟩ (by simp) rfl _ _ rfl rfl
      obtain rfl : x8 = _ := rx8
      exact wp_store_row 43 _ _ rfl rb _ (eval_tmp es4) (eval_tmp ex8) 43 _ hA infoBx rfl (by simp [Value.oneCell']) ⟨_, rfl, ⟨bel_setRow hF.1 hrW _, hF.2.1.farRow _ nrb, hF.2.2.farRow _ nrv⟩, hA.setRow _⟩
    · refine jk_val rfl (by decide) (fun a u hF hk hp => ?_)
      exact ⟨_, by simp [execOp, go_sem], rfl⟩
    · trivial
  · intro a W9 listed hJ hall hsz hdf hk hgot
    obtain ⟨hF, hB⟩ := jk_end hJ (by decide : 9 < 11) hall
    clear hJ hall
    obtain ⟨vv10, ev10, rv10⟩ := hgot 10 _ 5 rfl rfl
    obtain rfl : vv10 = _ := rv10
    obtain ⟨f, hf, rfl⟩ := frame_eq hsz hdf hk [31, 32, 33, 34, 35, 36, 37, 38, 39, 5] (by rfl)
    have f5 := hf 5 _ ev10
    clear hsz hdf hk hgot hf ev10
    simp only [List.drop_succ_cons, List.drop_zero, setAll, List.setIfInBounds_toArray, List.set_cons_succ, List.set_cons_zero, f5]
    clear f5
    generalize f 31 = uu31; generalize f 32 = uu32; generalize f 33 = uu33; generalize f 34 = uu34; generalize f 35 = uu35; generalize f 36 = uu36; generalize f 37 = uu37; generalize f 38 = uu38; generalize f 39 = uu39
    go_wp2
    exact bodyPost_ret (ret2B (p := 4) (u := 5) rfl _ _ rb lx hx _ rfl rfl hB) rfl ⟨rfl, hF.1⟩
end Go.Proofs.Ytpaehkjnefgaiaa
namespace Go.Proofs.Ytpaehkjnefgaiaa
open Go.RowKit
set_option linter.unusedVariables false
set_option linter.unusedSimpArgs false
set_option linter.unnecessarySimpa false
set_option maxRecDepth 100000
@[reducible] def trA (p q r : P3) : Array Value := #[.int .i64 p.x, .int .i64 p.y, .int .i64 p.z, .int .i64 q.x, .int .i64 q.y, .int .i64 q.z, .int .i64 r.x, .int .i64 r.y, .int .i64 r.z]
theorem infoTrM {p q r : P3} : (Try.prog.info? 47).map (·.size) = some (trA p q r).size := by kernel_rfl
theorem putTr {ops : Array Oper} {rest : List Oper} {o : Oper} {a : Act} {w : World} {Q : Exit → Act → World → Prop} (hgd : o.guard = none) (x y : Operand) (ho : o.op = .store 47 x y) (g : Nat) (p q r : P3) (hx : a.eval x = .pointer (some ⟨g, 0, none⟩)) (hy : a.eval y = .agg (trA p q r)) (old : Array Value) (hs : old.size = 9) (h : Blk w g 47 old)
    (K : wpList Try.prog ops Q rest (a.put o.dst undef) (w.setRow g (trA p q r))) : wpList Try.prog ops Q (o :: rest) a w :=
  wpList_store_row hgd 47 x y ho g _ hx hy 47 old h infoTrM hs (by simp [Value.oneCell']) K
theorem ret2T {fn : Func} {p u : Tmp} (h : fn.results = #[.cell p 47, .tmp u]) (tmps : Array Value) (w : World) (g : Nat) (x y z : P3) (b : Value) (hp : tmps.getD p undef = .pointer (some ⟨g, 0, none⟩)) (hb : tmps.getD u undef = b) (hB : Blk w g 47 (trA x y z)) :
    (results fn tmps).run Try.prog w = .ok (.tuple #[.agg (trA x y z), b]) w := by
  have hl := run_loadVar_row (P := Try.prog) w g 47 47 (trA x y z) (0, 0) _ hB Try.underlying47 rfl infoTrM
  rw [results_cell_tmp h, hp, hb]
  simp [asAddr, hl, Result.andThen]
theorem idx3_run0 (a : Act) (o : Oper) (x y : Operand) (ho : o.op = .index 60 x y) (p q r : Int) (hx : a.eval x = .agg #[.int .i64 p, .int .i64 q, .int .i64 r]) (hy : a.eval y = .int .i64 0) (u : World) : (execOp a.eval o).run Try.prog u = .ok (.value (.int .i64 p)) u := by
  unfold execOp
  rw [ho]
  simp only [hx, hy]
  kernel_rfl
theorem idx3_run1 (a : Act) (o : Oper) (x y : Operand) (ho : o.op = .index 60 x y) (p q r : Int) (hx : a.eval x = .agg #[.int .i64 p, .int .i64 q, .int .i64 r]) (hy : a.eval y = .int .i64 1) (u : World) : (execOp a.eval o).run Try.prog u = .ok (.value (.int .i64 q)) u := by
  unfold execOp
  rw [ho]
  simp only [hx, hy]
  kernel_rfl
theorem idx3_run2 (a : Act) (o : Oper) (x y : Operand) (ho : o.op = .index 60 x y) (p q r : Int) (hx : a.eval x = .agg #[.int .i64 p, .int .i64 q, .int .i64 r]) (hy : a.eval y = .int .i64 2) (u : World) : (execOp a.eval o).run Try.prog u = .ok (.value (.int .i64 r)) u := by
  unfold execOp
  rw [ho]
  simp only [hx, hy]
  kernel_rfl
set_option maxHeartbeats 8000000 in
theorem vtri_yes (W : World) (b1 o1 b3 o3 n1 n3 c1 c3 : Nat) (s2 : Value) (k x y z : Nat) (hk : k < n3) (hx : x < n1) (hy : y < n1) (hz : z < n1) (p0 p1 p2 : P3) (hl1 : b1 < W.heap.size) (hl3 : b3 < W.heap.size)
    (t0 : W.cell? ⟨b3, o3 + k * 3, none⟩ = some (.int .i64 (x : Int))) (t1 : W.cell? ⟨b3, o3 + k * 3 + 1, none⟩ = some (.int .i64 (y : Int))) (t2 : W.cell? ⟨b3, o3 + k * 3 + 2, none⟩ = some (.int .i64 (z : Int)))
    (h0 : W.cell? ⟨b1, o1 + x * 3, none⟩ = some (.int .i64 p0.x) ∧ W.cell? ⟨b1, o1 + x * 3 + 1, none⟩ = some (.int .i64 p0.y) ∧ W.cell? ⟨b1, o1 + x * 3 + 2, none⟩ = some (.int .i64 p0.z))
    (h1 : W.cell? ⟨b1, o1 + y * 3, none⟩ = some (.int .i64 p1.x) ∧ W.cell? ⟨b1, o1 + y * 3 + 1, none⟩ = some (.int .i64 p1.y) ∧ W.cell? ⟨b1, o1 + y * 3 + 2, none⟩ = some (.int .i64 p1.z))
    (h2 : W.cell? ⟨b1, o1 + z * 3, none⟩ = some (.int .i64 p2.x) ∧ W.cell? ⟨b1, o1 + z * 3 + 1, none⟩ = some (.int .i64 p2.y) ∧ W.cell? ⟨b1, o1 + z * 3 + 2, none⟩ = some (.int .i64 p2.z)) :
    Calls Try.prog 15 #[.agg #[.slice (some ⟨b1, o1, none⟩) n1 c1, s2, .slice (some ⟨b3, o3, none⟩) n3 c3], .int .i64 (k : Int)] W fun e W' => e = .returned (.tuple #[.agg (trA p0 p1 p2), .bool true]) ∧ Below W.heap.size W W' := by
  obtain ⟨W0, hW0⟩ : ∃ W0, W0 = (W.alloc (.cells #[.slice (some ⟨b1, o1, none⟩) n1 c1, s2, .slice (some ⟨b3, o3, none⟩) n3 c3] 38)).alloc (.cells #[.int .i64 0, .int .i64 0, .int .i64 0, .int .i64 0, .int .i64 0, .int .i64 0, .int .i64 0, .int .i64 0, .int .i64 0] 47) := ⟨_, rfl⟩
  have hb0 : Below W.heap.size W W0 := by rw [hW0]; exact bel_alloc (bel_alloc (Below.refl _ _) _) _
  have hM0 : Blk W0 W.heap.size 38 #[.slice (some ⟨b1, o1, none⟩) n1 c1, s2, .slice (some ⟨b3, o3, none⟩) n3 c3] := by rw [hW0]; exact (Blk.new _ _ _ _ rfl).alloc _
  have hR0 : Blk W0 (W.heap.size + 1) 47 #[.int .i64 0, .int .i64 0, .int .i64 0, .int .i64 0, .int .i64 0, .int .i64 0, .int .i64 0, .int .i64 0, .int .i64 0] := by rw [hW0]; exact Blk.new _ _ _ _ (by simp)
  have k0 : (0 : Int) ≤ (k : Int) := by omega
  have k1 : (k : Int) < (n3 : Int) := by omega
  have k2 : ¬ (k : Int) < 0 := by omega
  have k3 : ¬ (k : Int) ≥ (n3 : Int) := by omega
  have x0 : (0 : Int) ≤ (x : Int) := by omega
  have x1 : (x : Int) < (n1 : Int) := by omega
  have x2 : ¬ (x : Int) < 0 := by omega
  have x3 : ¬ (x : Int) ≥ (n1 : Int) := by omega
  have y0 : (0 : Int) ≤ (y : Int) := by omega
  have y1 : (y : Int) < (n1 : Int) := by omega
  have y2 : ¬ (y : Int) < 0 := by omega
  have y3 : ¬ (y : Int) ≥ (n1 : Int) := by omega
  have z0 : (0 : Int) ≤ (z : Int) := by omega
  have z1 : (z : Int) < (n1 : Int) := by omega
  have z2 : ¬ (z : Int) < 0 := by omega
  have z3 : ¬ (z : Int) ≥ (n1 : Int) := by omega
  obtain ⟨p0x, p0y, p0z⟩ := h0
  obtain ⟨p1x, p1y, p1z⟩ := h1
  obtain ⟨p2x, p2y, p2z⟩ := h2
  go_enter Try.func15, Try.ntmps15
  go_upto_region 1 with (fail)
  simp only [← hW0]
  clear hW0
  obtain ⟨mb, hmb⟩ : ∃ b, b = W.heap.size := ⟨_, rfl⟩
  obtain ⟨rb, hrb⟩ : ∃ b, b = mb + 1 := ⟨_, rfl⟩
  rw [← hmb] at hM0 hR0
  rw [← hrb] at hR0
  simp only [← hmb, ← hrb]
  have hrW : W.heap.size ≤ rb := by omega
  have nrm : rb ≠ mb := by omega
  replace hmb := Lib.hid hmb
  replace hrb := Lib.hid hrb
  have ml := hM0.lt
  have m0 : W0.cell? ⟨mb, 0, none⟩ = some (.slice (some ⟨b1, o1, none⟩) n1 c1) := hM0.cell 0
  have m2 : W0.cell? ⟨mb, 2, none⟩ = some (.slice (some ⟨b3, o3, none⟩) n3 c3) := hM0.cell 2
  have l1 := Nat.lt_of_lt_of_le hl1 hb0.size
  have l3 := Nat.lt_of_lt_of_le hl3 hb0.size
  have t0n := (hb0.cell (p := ⟨b3, _, none⟩) hl3).trans t0
  have t1n := (hb0.cell (p := ⟨b3, _, none⟩) hl3).trans t1
  have t2n := (hb0.cell (p := ⟨b3, _, none⟩) hl3).trans t2
  go_upto_region 4 with (fail)
  have hb1 := bel_alloc (Below.refl W0.heap.size W0) (.cells #[.int .i64 0, .int .i64 0, .int .i64 0, .int .i64 0, .int .i64 0, .int .i64 0, .int .i64 0, .int .i64 0, .int .i64 0] 86)
  have hC1 : Blk (W0.alloc (.cells #[.int .i64 0, .int .i64 0, .int .i64 0, .int .i64 0, .int .i64 0, .int .i64 0, .int .i64 0, .int .i64 0, .int .i64 0] 86)) W0.heap.size 86 #[.int .i64 0, .int .i64 0, .int .i64 0, .int .i64 0, .int .i64 0, .int .i64 0, .int .i64 0, .int .i64 0, .int .i64 0] := Blk.new _ _ _ _ rfl
  have t0m := (hb1.cell (p := ⟨b3, _, none⟩) l3).trans t0n
  have t1m := (hb1.cell (p := ⟨b3, _, none⟩) l3).trans t1n
  have t2m := (hb1.cell (p := ⟨b3, _, none⟩) l3).trans t2n
  have m2m := (hb1.cell (p := ⟨mb, _, none⟩) ml).trans m2
  have l3m := Nat.lt_of_lt_of_le l3 hb1.size
  have mlm := Nat.lt_of_lt_of_le ml hb1.size
  obtain ⟨cb, hcb⟩ : ∃ b, b = W0.heap.size := ⟨_, rfl⟩
  rw [← hcb] at hC1
  simp only [← hcb]
  have hcW : W0.heap.size ≤ cb := by omega
  replace hcb := Lib.hid hcb
  clear t0n t1n t2n l3
  generalize W0.alloc (.cells #[.int .i64 0, .int .i64 0, .int .i64 0, .int .i64 0, .int .i64 0, .int .i64 0, .int .i64 0, .int .i64 0, .int .i64 0] 86) = W1 at *
  go_wp2
  go_loopw [24] (fun iv wr => Below W0.heap.size W0 wr ∧ ((iv = .int .i64 0 ∧ Blk wr cb 86 #[.int .i64 0, .int .i64 0, .int .i64 0, .int .i64 0, .int .i64 0, .int .i64 0, .int .i64 0, .int .i64 0, .int .i64 0]) ∨ (iv = .int .i64 1 ∧ Blk wr cb 86 #[.int .i64 p0.x, .int .i64 p0.y, .int .i64 p0.z, .int .i64 0, .int .i64 0, .int .i64 0, .int .i64 0, .int .i64 0, .int .i64 0]) ∨ (iv = .int .i64 2 ∧ Blk wr cb 86 #[.int .i64 p0.x, .int .i64 p0.y, .int .i64 p0.z, .int .i64 p1.x, .int .i64 p1.y, .int .i64 p1.z, .int .i64 0, .int .i64 0, .int .i64 0]) ∨ (iv = .int .i64 3 ∧ Blk wr cb 86 #[.int .i64 p0.x, .int .i64 p0.y, .int .i64 p0.z, .int .i64 p1.x, .int .i64 p1.y, .int .i64 p1.z, .int .i64 p2.x, .int .i64 p2.y, .int .i64 p2.z]))) (fun iv _ => 3 - (intOf iv).toNat)
  case atStart => exact ⟨hb1, .inl ⟨rfl, hC1⟩⟩
  case round =>
    obtain ⟨hBr, hi⟩ := hrel
    clear hb1 hC1 t0m t1m t2m m2m l3m mlm
    rcases hi with ⟨rfl, hC⟩ | ⟨rfl, hC⟩ | ⟨rfl, hC⟩ | ⟨rfl, hC⟩
    · have cl := hC.lt
      have m0r := (hBr.cell (p := ⟨mb, _, none⟩) ml).trans m0
      have mlr := Nat.lt_of_lt_of_le ml hBr.size
      have vl := Nat.lt_of_lt_of_le hl1 (bel_trans hb0 hBr).size
      have v0 := ((bel_trans hb0 hBr).cell (p := ⟨b1, _, none⟩) hl1).trans p0x
      have v1 := ((bel_trans hb0 hBr).cell (p := ⟨b1, _, none⟩) hl1).trans p0y
      have v2 := ((bel_trans hb0 hBr).cell (p := ⟨b1, _, none⟩) hl1).trans p0z
      have g0 := hC.cell 0
      have g1 := hC.cell 1
      have g2 := hC.cell 2
      have f0 := hC.frozen 0
      have f1 := hC.frozen 1
      have f2 := hC.frozen 2
      have hC6 : Blk (((wr.setCell ⟨cb, 0, none⟩ (.int .i64 p0.x)).setCell ⟨cb, 1, none⟩ (.int .i64 p0.y)).setCell ⟨cb, 2, none⟩ (.int .i64 p0.z)) cb 86 #[.int .i64 p0.x, .int .i64 p0.y, .int .i64 p0.z, .int .i64 0, .int .i64 0, .int .i64 0, .int .i64 0, .int .i64 0, .int .i64 0] := ((hC.set 0 _).set 1 _).set 2 _
      have hB6 := bel_set (bel_set (bel_set hBr (p := ⟨cb, 0, none⟩) hcW (.int .i64 p0.x)) (p := ⟨cb, 1, none⟩) hcW (.int .i64 p0.y)) (p := ⟨cb, 2, none⟩) hcW (.int .i64 p0.z)
      clear hC hBr
      go_wp2_with (first | (refine wpList_val rfl (.int .i64 (x : Int)) _ (idx3_run0 _ _ _ _ rfl (x : Int) (y : Int) (z : Int) rfl rfl _) ?_; simp only [Act.put, List.setIfInBounds_toArray, List.set_cons_succ, List.set_cons_zero]) | fail)
      go_roundw
      case rel => exact ⟨hB6, .inr (.inl ⟨rfl, hC6⟩)⟩
      case measure => simp [intOf]
    · have cl := hC.lt
      have m0r := (hBr.cell (p := ⟨mb, _, none⟩) ml).trans m0
      have mlr := Nat.lt_of_lt_of_le ml hBr.size
      have vl := Nat.lt_of_lt_of_le hl1 (bel_trans hb0 hBr).size
      have v0 := ((bel_trans hb0 hBr).cell (p := ⟨b1, _, none⟩) hl1).trans p1x
      have v1 := ((bel_trans hb0 hBr).cell (p := ⟨b1, _, none⟩) hl1).trans p1y
      have v2 := ((bel_trans hb0 hBr).cell (p := ⟨b1, _, none⟩) hl1).trans p1z
      have g0 := hC.cell 3
      have g1 := hC.cell 4
      have g2 := hC.cell 5
      have f0 := hC.frozen 3
      have f1 := hC.frozen 4
      have f2 := hC.frozen 5
      have hC6 : Blk (((wr.setCell ⟨cb, 3, none⟩ (.int .i64 p1.x)).setCell ⟨cb, 4, none⟩ (.int .i64 p1.y)).setCell ⟨cb, 5, none⟩ (.int .i64 p1.z)) cb 86 #[.int .i64 p0.x, .int .i64 p0.y, .int .i64 p0.z, .int .i64 p1.x, .int .i64 p1.y, .int .i64 p1.z, .int .i64 0, .int .i64 0, .int .i64 0] := ((hC.set 3 _).set 4 _).set 5 _
      have hB6 := bel_set (bel_set (bel_set hBr (p := ⟨cb, 3, none⟩) hcW (.int .i64 p1.x)) (p := ⟨cb, 4, none⟩) hcW (.int .i64 p1.y)) (p := ⟨cb, 5, none⟩) hcW (.int .i64 p1.z)
      clear hC hBr
      go_wp2_with (first | (refine wpList_val rfl (.int .i64 (y : Int)) _ (idx3_run1 _ _ _ _ rfl (x : Int) (y : Int) (z : Int) rfl rfl _) ?_; simp only [Act.put, List.setIfInBounds_toArray, List.set_cons_succ, List.set_cons_zero]) | fail)
      go_roundw
      case rel => exact ⟨hB6, .inr (.inr (.inl ⟨rfl, hC6⟩))⟩
      case measure => simp [intOf]
    · have cl := hC.lt
      have m0r := (hBr.cell (p := ⟨mb, _, none⟩) ml).trans m0
      have mlr := Nat.lt_of_lt_of_le ml hBr.size
      have vl := Nat.lt_of_lt_of_le hl1 (bel_trans hb0 hBr).size
      have v0 := ((bel_trans hb0 hBr).cell (p := ⟨b1, _, none⟩) hl1).trans p2x
      have v1 := ((bel_trans hb0 hBr).cell (p := ⟨b1, _, none⟩) hl1).trans p2y
      have v2 := ((bel_trans hb0 hBr).cell (p := ⟨b1, _, none⟩) hl1).trans p2z
      have g0 := hC.cell 6
      have g1 := hC.cell 7
      have g2 := hC.cell 8
      have f0 := hC.frozen 6
      have f1 := hC.frozen 7
      have f2 := hC.frozen 8
      have hC6 : Blk (((wr.setCell ⟨cb, 6, none⟩ (.int .i64 p2.x)).setCell ⟨cb, 7, none⟩ (.int .i64 p2.y)).setCell ⟨cb, 8, none⟩ (.int .i64 p2.z)) cb 86 #[.int .i64 p0.x, .int .i64 p0.y, .int .i64 p0.z, .int .i64 p1.x, .int .i64 p1.y, .int .i64 p1.z, .int .i64 p2.x, .int .i64 p2.y, .int .i64 p2.z] := ((hC.set 6 _).set 7 _).set 8 _
      have hB6 := bel_set (bel_set (bel_set hBr (p := ⟨cb, 6, none⟩) hcW (.int .i64 p2.x)) (p := ⟨cb, 7, none⟩) hcW (.int .i64 p2.y)) (p := ⟨cb, 8, none⟩) hcW (.int .i64 p2.z)
      clear hC hBr
      go_wp2_with (first | (refine wpList_val rfl (.int .i64 (z : Int)) _ (idx3_run2 _ _ _ _ rfl (x : Int) (y : Int) (z : Int) rfl rfl _) ?_; simp only [Act.put, List.setIfInBounds_toArray, List.set_cons_succ, List.set_cons_zero]) | fail)
      go_roundw
      case rel => exact ⟨hB6, .inr (.inr (.inr (⟨rfl, hC6⟩)))⟩
      case measure => simp [intOf]
    · have cl := hC.lt
      have g0 := hC.cell 0
      have g1 := hC.cell 1
      have g2 := hC.cell 2
      have g3 := hC.cell 3
      have g4 := hC.cell 4
      have g5 := hC.cell 5
      have g6 := hC.cell 6
      have g7 := hC.cell 7
      have g8 := hC.cell 8
      have hR9 := hR0.below hBr
      clear hC
      go_wp2_with (first | (refine putTr rfl _ _ rfl rb p0 p1 p2 rfl rfl _ rfl hR9 ?_; simp only [Act.put, List.setIfInBounds_toArray, List.set_cons_succ, List.set_cons_zero]) | fail)
      exact bodyPost_ret (ret2T (p := 4) (u := 5) rfl _ _ rb p0 p1 p2 _ rfl rfl (hR9.setRow _)) rfl ⟨rfl, bel_setRow (bel_trans hb0 hBr) hrW _⟩
end Go.Proofs.Ytpaehkjnefgaiaa
namespace Go.Proofs.Ytpaehkjnefgaiaa
open Go.RowKit
set_option linter.unusedVariables false
set_option linter.unusedSimpArgs false
set_option linter.unnecessarySimpa false
set_option maxRecDepth 100000
/-- A mesh's rows in memory. -/
structure MsL (W : World) (A1 A2 A3 : Option Addr) (m : Msh) : Prop where
  v : VL W A1 m.vs
  k : KL W A2 m.ks
  t : L3 W A3 m.ts
theorem MsL.below {W W' : World} {A1 A2 A3 : Option Addr} {m : Msh} (h : MsL W A1 A2 A3 m) (hb : Below W.heap.size W W') : MsL W' A1 A2 A3 m := ⟨h.v.below hb, h.k.below hb, h.t.below hb⟩
end Go.Proofs.Ytpaehkjnefgaiaa
namespace Go.Proofs.Ytpaehkjnefgaiaa
open Go.RowKit
set_option linter.unusedVariables false
set_option linter.unusedSimpArgs false
set_option linter.unnecessarySimpa false
set_option maxRecDepth 100000
def Pch.putP (P : Pch) (i : Nat) (u : P3) : Pch := ⟨fun j => if j = i then u else P.pt j, P.co, P.nm, P.sk⟩
theorem Pch.setP (P : Pch) {i : Nat} (hi : i < 16) (u : P3) : ((P.row.setIfInBounds (i * 3) (.int .i64 u.x)).setIfInBounds (i * 3 + 1) (.int .i64 u.y)).setIfInBounds (i * 3 + 2) (.int .i64 u.z) = (P.putP i u).row := by
  unfold Pch.row
  rw [cellsF_set, cellsF_set, cellsF_set]
  refine cellsF_ext fun v hv => ?_
  unfold Pch.c Pch.putP qC
  by_cases h : v < 48
  · simp only [h, if_true]
    by_cases e : v / 3 = i
    · rcases (by omega : v = i * 3 ∨ v = i * 3 + 1 ∨ v = i * 3 + 2) with rfl | rfl | rfl
      · rw [if_neg (by omega), if_neg (by omega), if_pos rfl, if_pos (by omega : i * 3 / 3 = i), if_pos (by omega)]
      · rw [if_neg (by omega), if_pos rfl, if_pos (by omega : (i * 3 + 1) / 3 = i), if_neg (by omega), if_pos (by omega)]
      · rw [if_pos rfl, if_pos (by omega : (i * 3 + 2) / 3 = i), if_neg (by omega), if_neg (by omega)]
    · rw [if_neg (by omega), if_neg (by omega), if_neg (by omega), if_neg e]
  · rw [if_neg (by omega), if_neg (by omega), if_neg (by omega)]
    simp only [h, if_false]
def flatU (k : Nat) : Pch := ⟨fun j => if j < k then ⟨3 * ((j % 4 : Nat) : Int), 3 * ((j / 4 : Nat) : Int), 0⟩ else N3, fun j => (j : Int), fun _ => N3, 0⟩
theorem flat_next (k : Nat) : (flatU k).putP k ⟨3 * ((k % 4 : Nat) : Int), 3 * ((k / 4 : Nat) : Int), 0⟩ = flatU (k + 1) := by
  unfold Pch.putP flatU
  simp only [Pch.mk.injEq, and_true]
  funext j
  by_cases e : j = k
  · subst e; rw [if_pos rfl, if_pos (by omega)]
  · rw [if_neg e]
    by_cases h : j < k
    · rw [if_pos h, if_pos (by omega)]
    · rw [if_neg h, if_neg (by omega)]
theorem built_flat : Try.prog.built 28 [(1, .agg #[.int .i64 0, .int .i64 1, .int .i64 2, .int .i64 3])] = some (flatU 0).row := by kernel_rfl
theorem alloc_Pt65 (a : Act) (o : Oper) (ho : o.op = .alloc 28) (w : World) : (execOp a.eval o).run Try.prog w = .ok (.value (.pointer (some ⟨w.heap.size, 0, none⟩))) (w.alloc (.cells Pch0.row 28)) := by
  unfold execOp
  rw [ho]
  kernel_rfl
theorem infoPt65' {P : Pch} : (Try.prog.info? 28).map (·.size) = some P.row.size := by
  rw [P.row_size]
  kernel_rfl
theorem wpAllocPt {ops : Array Oper} {rest : List Oper} {o : Oper} {a : Act} {w : World} {Q : Exit → Act → World → Prop} (hgd : o.guard = none) (ho : o.op = .alloc 28)
    (K : wpList Try.prog ops Q rest (a.put o.dst (.pointer (some ⟨w.heap.size, 0, none⟩))) (w.alloc (.cells Pch0.row 28))) : wpList Try.prog ops Q (o :: rest) a w :=
  wpList_val hgd _ _ (alloc_Pt65 a o ho w) K
theorem wpBuildFlat {ops : Array Oper} {rest : List Oper} {o : Oper} {a : Act} {w : World} {Q : Exit → Act → World → Prop} (hgd : o.guard = none) (x : Operand) (ho : o.op = .build 28 #[(1, x)]) (hx : a.eval x = .agg #[.int .i64 0, .int .i64 1, .int .i64 2, .int .i64 3])
    (K : wpList Try.prog ops Q rest (a.put o.dst (.agg (flatU 0).row)) w) : wpList Try.prog ops Q (o :: rest) a w :=
  wpList_val hgd _ _ (build_of a o ho w _ (by simp only [List.map_toArray, List.map_cons, List.map_nil, hx]; exact built_flat)) K
theorem putPt {ops : Array Oper} {rest : List Oper} {o : Oper} {a : Act} {w : World} {Q : Exit → Act → World → Prop} (hgd : o.guard = none) (x y : Operand) (ho : o.op = .store 28 x y) (g : Nat) (P : Pch) (hx : a.eval x = .pointer (some ⟨g, 0, none⟩)) (hy : a.eval y = .agg P.row) (old : Array Value) (hs : old.size = 65) (h : Blk w g 28 old)
    (K : wpList Try.prog ops Q rest (a.put o.dst undef) (w.setRow g P.row)) : wpList Try.prog ops Q (o :: rest) a w :=
  wpList_store_row hgd 28 x y ho g _ hx hy 28 old h infoPt65' (by rw [hs, P.row_size]) P.row_one K
set_option maxHeartbeats 4000000 in
theorem flat_any : Gives Try.prog 22 #[] (.agg (flatU 16).row) := by
  refine Gives.mk fun w => ?_
  go_enter Try.func22, Try.ntmps22
  have hR0 : Blk (w.alloc (.cells Pch0.row 28)) w.heap.size 28 Pch0.row := Blk.new _ _ _ _ rfl
  have hb0 : Below w.heap.size w (w.alloc (.cells Pch0.row 28)) := bel_alloc (Below.refl _ _) _
  go_upto_region 1 with (first | (refine wpAllocPt rfl rfl ?_; simp only [Act.put, List.setIfInBounds_toArray, List.set_cons_succ, List.set_cons_zero]) | fail)
  obtain ⟨W0, hW0⟩ : ∃ W0, W0 = w.alloc (.cells Pch0.row 28) := ⟨_, rfl⟩
  obtain ⟨rb, hrb⟩ : ∃ b, b = w.heap.size := ⟨_, rfl⟩
  rw [← hW0] at hR0 hb0
  rw [← hrb] at hR0
  simp only [← hW0, ← hrb]
  have hrw : w.heap.size ≤ rb := by omega
  replace hrb := Lib.hid hrb
  replace hW0 := Lib.hid hW0
  have hP1 : Blk (W0.alloc (.cells Pch0.row 28)) W0.heap.size 28 Pch0.row := Blk.new _ _ _ _ rfl
  have hR1 := hR0.alloc (.cells Pch0.row 28)
  have hb1 := bel_alloc hb0 (.cells Pch0.row 28)
  have hlt := hR0.lt
  obtain ⟨pb, hpb⟩ : ∃ b, b = W0.heap.size := ⟨_, rfl⟩
  rw [← hpb] at hP1 hlt
  go_upto_region 2 with (first | (refine wpBuildFlat rfl _ rfl rfl ?_; simp only [Act.put, List.setIfInBounds_toArray, List.set_cons_succ, List.set_cons_zero]) | (refine wpAllocPt rfl rfl ?_; simp only [← hpb, Act.put, List.setIfInBounds_toArray, List.set_cons_succ, List.set_cons_zero]) | (refine putPt rfl _ _ rfl pb (flatU 0) rfl rfl Pch0.row Pch0.row_size hP1 ?_; simp only [Act.put, List.setIfInBounds_toArray, List.set_cons_succ, List.set_cons_zero]) | fail)
  have hb2 := bel_setRow hb1 (by have := hb0.size; omega : w.heap.size ≤ pb) (flatU 0).row
  have hP2 := hP1.setRow (flatU 0).row
  have hR2 := hR1.farRow (b := pb) (flatU 0).row (by omega)
  have hpw : w.heap.size ≤ pb := by have := hb0.size; omega
  have hpr : pb ≠ rb := by omega
  replace hpb := Lib.hid hpb
  clear hP1 hR1 hb1 hR0 hb0
  generalize (W0.alloc (.cells Pch0.row 28)).setRow pb (flatU 0).row = W1 at *
  go_wp2
  go_loopw [2] (fun iv wr => ∃ k : Nat, iv = .int .i64 (k : Int) ∧ k ≤ 16 ∧ Below w.heap.size w wr ∧ Blk wr rb 28 Pch0.row ∧ Blk wr pb 28 (flatU k).row) (fun iv _ => 16 - (intOf iv).toNat)
  case atStart => exact ⟨0, rfl, by omega, hb2, hR2, hP2⟩
  case round =>
    obtain ⟨k, rfl, hk, hBr, hR, hP⟩ := hrel
    by_cases hlt : k < 16
    · have q1 : (k : Int) < 16 := by omega
      have m1 : (k : Int).tmod 4 = ((k % 4 : Nat) : Int) := by rw [Int.tmod_eq_emod_of_nonneg (by omega)]; omega
      have m2 : (k : Int).tdiv 4 = ((k / 4 : Nat) : Int) := by rw [Int.tdiv_eq_ediv_of_nonneg (by omega)]; omega
      have w1 : IntKind.i64.wrap (3 * ((k : Int) % 4)) = 3 * ((k : Int) % 4) := by simp [IntKind.wrap, IntKind.bits, IntKind.signed]; omega
      have w2 : IntKind.i64.wrap (3 * ((k : Int) / 4)) = 3 * ((k : Int) / 4) := by simp [IntKind.wrap, IntKind.bits, IntKind.signed]; omega
      have hS1 := hP.set (k * 3) (.int .i64 (3 * ((k : Int) % 4)))
      have hS2 := hS1.set (k * 3 + 1) (.int .i64 (3 * ((k : Int) / 4)))
      have hS3 := hS2.set (k * 3 + 2) (.int .i64 0)
      have z0 := (flatU k).row_size
      obtain ⟨v0, g0⟩ : ∃ v, wr.cell? ⟨pb, k * 3, none⟩ = some v := ⟨_, (hP.cell _).trans (Array.getElem?_eq_getElem (by omega))⟩
      obtain ⟨v1, g1⟩ : ∃ v, (wr.setCell ⟨pb, k * 3, none⟩ (.int .i64 (3 * ((k : Int) % 4)))).cell? ⟨pb, k * 3 + 1, none⟩ = some v := ⟨_, (hS1.cell _).trans (Array.getElem?_eq_getElem (by rw [Array.size_setIfInBounds]; omega))⟩
      obtain ⟨v2, g2⟩ : ∃ v, ((wr.setCell ⟨pb, k * 3, none⟩ (.int .i64 (3 * ((k : Int) % 4)))).setCell ⟨pb, k * 3 + 1, none⟩ (.int .i64 (3 * ((k : Int) / 4)))).cell? ⟨pb, k * 3 + 2, none⟩ = some v := ⟨_, (hS2.cell _).trans (Array.getElem?_eq_getElem (by rw [Array.size_setIfInBounds, Array.size_setIfInBounds]; omega))⟩
      have f0 := hP.frozen (k * 3)
      have f1 := hS1.frozen (k * 3 + 1)
      have f2 := hS2.frozen (k * 3 + 2)
      have ltp := hP.lt
      have hN : Blk (((wr.setCell ⟨pb, k * 3, none⟩ (.int .i64 (3 * ((k : Int) % 4)))).setCell ⟨pb, k * 3 + 1, none⟩ (.int .i64 (3 * ((k : Int) / 4)))).setCell ⟨pb, k * 3 + 2, none⟩ (.int .i64 0)) pb 28 (flatU (k + 1)).row := by
        rw [← flat_next k, ← Pch.setP (flatU k) hlt]
        exact hS3
      have hNR := ((hR.far (b := pb) (k * 3) (.int .i64 (3 * ((k : Int) % 4))) hpr).far (b := pb) (k * 3 + 1) (.int .i64 (3 * ((k : Int) / 4))) hpr).far (b := pb) (k * 3 + 2) (.int .i64 0) hpr
      have hNB := bel_set (bel_set (bel_set hBr (p := ⟨pb, k * 3, none⟩) hpw (.int .i64 (3 * ((k : Int) % 4)))) (p := ⟨pb, k * 3 + 1, none⟩) hpw (.int .i64 (3 * ((k : Int) / 4)))) (p := ⟨pb, k * 3 + 2, none⟩) hpw (.int .i64 0)
      clear hS1 hS2 hS3 hP hR hBr
      go_wp2
      go_roundw
      case rel => exact ⟨k + 1, by simp, by omega, hNB, hNR, hN⟩
      case measure => simp [intOf]; omega
    · obtain rfl : k = 16 := by omega
      have hPB := PchB.of hP
      have hRe := hR.setRow (flatU 16).row
      have hBe := bel_setRow hBr hrw (flatU 16).row
      go_upto_region 6 with (fail)
      go_wp2_with (first | (refine getPt rfl _ rfl pb rfl (flatU 16) hPB ?_; simp only [Act.put, List.setIfInBounds_toArray, List.set_cons_succ, List.set_cons_zero]) | (refine putPt rfl _ _ rfl rb (flatU 16) rfl rfl Pch0.row Pch0.row_size hR ?_; simp only [Act.put, List.setIfInBounds_toArray, List.set_cons_succ, List.set_cons_zero]) | fail)
      exact bodyPost_ret (results_cell_row rfl _ _ rb 28 _ (0, 0) _ rfl hRe Try.underlying28 rfl infoPt65') rfl ⟨rfl, hBe⟩
end Go.Proofs.Ytpaehkjnefgaiaa
