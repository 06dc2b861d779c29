/- The document's blends, lifted points, directions among four. Package topo: fan. Rows copied and compared; a point that the document fixes. Blends: told backwards, of one, at the ends, and where they lie. Rows of points that are read; cages that are handed in, opened. A texture of one height; lifted one way and the other. -/
import Derived.OwnWalk
import Derived.Maps.AppendAt
import Derived.Deep.Upon
import Derived.Deep.MidRow
import Derived.Test.YteigionfaodafabC0
import Derived.Test.YteigionfaodafabC3
import Derived.Test.YteigionfaodafabC4
import Derived.Test.YteigionfaodafabC5
namespace Go.Proofs.Yteigionfaodafab
open Go.RowKit
set_option linter.unusedVariables false
set_option linter.unusedSimpArgs false
set_option linter.unnecessarySimpa false
set_option maxRecDepth 100000
end Go.Proofs.Yteigionfaodafab
namespace Go.Proofs.Yteigionfaodafab
open Go.RowKit
set_option linter.unusedVariables false
set_option linter.unusedSimpArgs false
set_option linter.unnecessarySimpa false
set_option maxRecDepth 100000


def ints (l : List Int) : List Value := l.map (Value.int .i64)
theorem infoI : (Try.prog.info? 3).map (fun i => (i.zero, i.size, i.bytes)) = some (some (.int .i64 0), 1, 8) := by kernel_rfl
theorem own_form {W : World} {base : Nat} {e : TypeId} {size n : Nat} {v : Value} {xs : List Value} (h : W.ownsRow base e size v n xs) : ∃ A c, v = .slice A n c := by
  rcases h.2 with ⟨h1, h2⟩ | ⟨g, cap, cur, h1, _⟩
  · subst h2; exact ⟨none, 0, h1⟩
  · exact ⟨_, _, h1⟩
theorem own_lay {W W' : World} {base : Nat} {e : TypeId} {size n : Nat} {v : Value} {xs : List Value} (h : W.ownsRow base e size v n xs) (hb : Below W.heap.size W W') : W'.ownsRow base e size v n xs := by
  obtain ⟨h0, h | ⟨g, cap, cur, h1, h2, h3, h4⟩⟩ := h
  · exact ⟨h0, .inl h⟩
  · exact ⟨h0, .inr ⟨g, cap, cur, h1, h2, (hb.block g (Array.getElem?_eq_some_iff.1 h3).1).trans h3, h4⟩⟩
theorem own_block {W : World} {base : Nat} {e : TypeId} {size n : Nat} {v : Value} {xs : List Value} (h : W.ownsRow base e size v n xs) : ∀ k, v.ownBlock = some k → base ≤ k ∧ k < W.heap.size := by
  intro k hk
  rcases h.2 with ⟨rfl, _⟩ | ⟨g, cap, cur, rfl, h1, h2, _⟩
  · cases hk
  · cases hk; exact ⟨h1, (Array.getElem?_eq_some_iff.1 h2).1⟩
theorem bel_own {a W W' : World} {row : Option Nat} (h : Below a.heap.size a W) (hg : W.grownBy W' row) (hB : ∀ k, row = some k → a.heap.size ≤ k) : Below a.heap.size a W' :=
  h.trans ⟨hg.os, hg.tape, hg.output, hg.size, fun k hk => hg.block k (Nat.lt_of_lt_of_le hk h.size) (by intro e; have := hB k e.symm; omega)⟩
end Go.Proofs.Yteigionfaodafab
namespace Go.Proofs.Yteigionfaodafab
open Go.RowKit
set_option linter.unusedVariables false
set_option linter.unusedSimpArgs false
set_option linter.unnecessarySimpa false
set_option maxRecDepth 100000
theorem addr_addR (b off k : Nat) : (⟨b, off, none⟩ : Addr).add k = ⟨b, off + k, none⟩ := by
  unfold Addr.add
  split <;> simp_all
theorem own_cellR {W : World} {base : Nat} {e : TypeId} {size n c : Nat} {A : Option Addr} {xs : List Value} (h : W.ownsRow base e size (.slice A n c) n xs) (hn : 0 < n) : ∃ b, A = some ⟨b, 0, none⟩ ∧ b < W.heap.size ∧ base ≤ b ∧ ∀ j, j < n * size → W.cell? ⟨b, j, none⟩ = xs[j]? := by
  obtain ⟨h0, ⟨h1, h2⟩ | ⟨g, cap, cur, h1, h2, h3, h4, h5, h6, h7⟩⟩ := h
  · omega
  · simp only [Value.slice.injEq] at h1
    refine ⟨g, h1.1, (Array.getElem?_eq_some_iff.1 h3).1, h2, fun j hj => ?_⟩
    rw [← h7, List.getElem?_take_of_lt hj]
    simp [World.cell?, h3]
theorem ilR_own {W : World} {base c : Nat} {A : Option Addr} {ns : List Int} (h : W.ownsRow base 3 1 (.slice A ns.length c) ns.length (ints ns)) : IL W A ns := fun hn => by
  obtain ⟨b, e, hb, _, hc⟩ := own_cellR h hn
  refine ⟨b, 0, e, hb, fun i hi => ?_⟩
  rw [Nat.zero_add, hc i (by omega)]
  simp [ints, hi]
theorem il2 {W : World} {g : Nat} {t : TypeId} {a b : Int} (h : Blk W g t #[.int .i64 a, .int .i64 b]) : IL W (some ⟨g, 0, none⟩) [a, b] := fun _ => ⟨g, 0, rfl, h.lt, fun i hi => by
  rcases (by simp at hi; omega : i = 0 ∨ i = 1) with rfl | rfl
  · exact h.cell 0
  · exact h.cell 1⟩
theorem alive14_any : Gives Try.prog 4 #[] (.bool true) := by
  have k1 := lift_any ⟨5, 5, 5⟩ ⟨0, 0, 1023⟩ 255 10 (by omega) (by omega)
  rw [show lfP ⟨5, 5, 5⟩ ⟨0, 0, 1023⟩ 255 10 = ⟨5, 5, 15⟩ by kernel_rfl, show lfK ⟨5, 5, 5⟩ ⟨0, 0, 1023⟩ 255 10 = true by kernel_rfl] at k1
  have k2 : ∀ W' g, Blk W' g 3 #[.int .i64 7, .int .i64 9] → Calls Try.prog 5 #[.agg #[.string ⟨#[]⟩, .int .i64 2, .int .i64 1, .slice (some ⟨g, 0, none⟩) 2 2], .agg #[.int .i64 (-1), .int .i64 0, .int .i64 0]] W' fun e w' => e = .returned (.tuple #[.int .i64 9, .bool true]) ∧ ∃ x, w' = grow W' x := fun W' g h => by
    have := texel_any W' ⟨#[]⟩ 2 1 (some ⟨g, 0, none⟩) 2 [7, 9] (il2 h) (by simp) ⟨-1, 0, 0⟩
    rw [show texV 2 1 [7, 9] ⟨-1, 0, 0⟩ = 9 by kernel_rfl, show texK 2 1 [7, 9] ⟨-1, 0, 0⟩ = true by kernel_rfl] at this
    exact this
  refine Gives.mk fun w => ?_
  go_enter Try.func4, Try.ntmps4
  go_upto_region 2 with (first | (go_at_call 7; (with_reducible refine (k1.at_ _).mono ?_); rintro e w' ⟨rfl, xg, rfl⟩) | fail)
  have hB : Below w.heap.size w ((grow w xg).alloc (.cells #[.int .i64 5, .int .i64 5, .int .i64 15] 23)) := bel_alloc (bel_grow (Below.refl _ _) xg) _
  have hP : Blk ((grow w xg).alloc (.cells #[.int .i64 5, .int .i64 5, .int .i64 15] 23)) (grow w xg).heap.size 23 #[.int .i64 5, .int .i64 5, .int .i64 15] := Blk.new _ _ _ _ rfl
  generalize ((grow w xg).alloc (.cells #[.int .i64 5, .int .i64 5, .int .i64 15] 23)) = W1 at *
  generalize (grow w xg).heap.size = n at *
  have pl := hP.lt
  have c0 := hP.cell 0
  have c1 := hP.cell 1
  have c2 := hP.cell 2
  go_wp2_with (first | (go_at_call 5; (with_reducible refine (k2 _ _ (Blk.new _ _ _ _ rfl)).mono ?_); rintro e w' ⟨rfl, xh, rfl⟩) | fail)
  go_ret
  exact ⟨rfl, bel_trans hB (by repeat (first | exact Below.refl _ _ | refine bel_then ?_ _ | refine bel_grow ?_ _ | refine bel_alloc ?_ _ | refine bel_drew ?_ | refine bel_set ?_ (by simp) _ | refine bel_setRow ?_ (by first | omega | (simp; done) | (refine Nat.le_trans ?_ (top_le _ _); simp; done) | (refine Nat.le_succ_of_le (Nat.le_trans ?_ (top_le _ _)); simp; done) | (refine Nat.le_trans ?_ (top_le _ _); simp only [World.size_alloc]; refine Nat.le_succ_of_le (Nat.le_trans ?_ (top_le _ _)); simp; done)) _))⟩
end Go.Proofs.Yteigionfaodafab
namespace Go.Proofs.Yteigionfaodafab
open Go.RowKit
set_option linter.unusedVariables false
set_option linter.unusedSimpArgs false
end Go.Proofs.Yteigionfaodafab
namespace Go.Proofs.Yteigionfaodafab
open Go.ChangeShapes Go.WideShapes Go.ChangeAt Go.RowKit
set_option linter.unusedVariables false
set_option linter.unusedSimpArgs false
set_option maxRecDepth 100000
/-- A row of structs of three numbers that lies somewhere. -/
def VL (W : World) (A : Option Addr) (ps : List P3) : Prop := 0 < ps.length → ∃ b off, A = some ⟨b, off, none⟩ ∧ b < W.heap.size ∧ ∀ i (h : i < ps.length), W.cell? ⟨b, off + i * 3, none⟩ = some (.int .i64 ps[i].x) ∧ W.cell? ⟨b, off + i * 3 + 1, none⟩ = some (.int .i64 ps[i].y) ∧ W.cell? ⟨b, off + i * 3 + 2, none⟩ = some (.int .i64 ps[i].z)
theorem VL.below {W W' : World} {A : Option Addr} {ps : List P3} (h : VL W A ps) (hb : Below W.heap.size W W') : VL W' A ps := fun hn => by
  obtain ⟨b, off, e, hl, hc⟩ := h hn
  refine ⟨b, off, e, Nat.lt_of_lt_of_le hl hb.size, fun i hi => ?_⟩
  obtain ⟨h1, h2, h3⟩ := hc i hi
  exact ⟨(hb.cell (p := ⟨b, _, none⟩) hl).trans h1, (hb.cell (p := ⟨b, _, none⟩) hl).trans h2, (hb.cell (p := ⟨b, _, none⟩) hl).trans h3⟩
theorem VL.nil (W : World) (A : Option Addr) : VL W A [] := fun h => by simp at h
theorem VL.at_ {W : World} {A : Option Addr} {ps : List P3} (h : VL W A ps) (i : Nat) (hi : i < ps.length) : ∃ b off, A = some ⟨b, off, none⟩ ∧ b < W.heap.size ∧ W.cell? ⟨b, off + i * 3, none⟩ = some (.int .i64 ps[i].x) ∧ W.cell? ⟨b, off + i * 3 + 1, none⟩ = some (.int .i64 ps[i].y) ∧ W.cell? ⟨b, off + i * 3 + 2, none⟩ = some (.int .i64 ps[i].z) := by
  obtain ⟨b, off, e, hl, hc⟩ := h (by omega)
  exact ⟨b, off, e, hl, hc i hi⟩
/-- A point of machine numbers. -/
def I3 (p : P3) : Prop := i64B p.x ∧ i64B p.y ∧ i64B p.z
structure Cg where
  vs : List P3
  fs : List (List Int)
  ks : List P3
/-- What a cage that is handed in keeps. -/
structure RawC (W : World) (c : Cg) (A1 A2 A3 : Option Addr) : Prop where
  l1 : c.vs.length ≤ reachBytes
  l2 : c.fs.length ≤ reachBytes
  l3 : c.ks.length ≤ reachBytes
  i1 : ∀ p ∈ c.vs, I3 p
  i2 : ∀ q ∈ c.fs, q.length ≤ reachBytes ∧ (∀ x ∈ q, i64B x)
  i3 : ∀ p ∈ c.ks, I3 p
  v1 : VL W A1 c.vs
  v2 : FL W A2 c.fs
  v3 : VL W A3 c.ks
section
variable {H : Type} {enc : TypeId × Value → H} {w : World} {base : Nat} {spare : Nat → Bool} {held : Bool}
end
end Go.Proofs.Yteigionfaodafab
namespace Go.Proofs.Yteigionfaodafab
open Go.RowKit
set_option linter.unusedVariables false
set_option linter.unusedSimpArgs false
set_option linter.unnecessarySimpa false
set_option maxRecDepth 100000
theorem flat_right {m : Nat} {t : Int} (hm : 1 ≤ m ∧ m ≤ 16) (ht : 0 ≤ t ∧ t ≤ 255) : rightF (m : Int) 1 (List.replicate m t) = true :=
  rightF_all (by simp; omega) (fun k hk => by rw [List.getElem_replicate]; exact ht)
theorem flat_tex {m : Nat} {t : Int} (hm : 1 ≤ m ∧ m ≤ 16) (ht : 0 ≤ t ∧ t ≤ 255) (p : P3) : texK (m : Int) 1 (List.replicate m t) p = wi p ∧ texV (m : Int) 1 (List.replicate m t) p = if wi p = true then t else 0 := by
  have h : texK (m : Int) 1 (List.replicate m t) p = wi p := by unfold texK; rw [flat_right hm ht, Bool.true_and]
  refine ⟨h, ?_⟩
  cases hw : wi p
  · rw [hw] at h
    rw [texV_no h]
    rfl
  · rw [hw] at h
    obtain ⟨hb, hk, e⟩ := texV_yes h
    rw [e, List.getElem_replicate, if_pos rfl]
def ngW (n : P3) : P3 := ⟨wrap64 (n.x * -1), wrap64 (n.y * -1), wrap64 (n.z * -1)⟩
theorem ng1 {x : Int} (hx : -9223372036854775808 ≤ x ∧ x ≤ 9223372036854775807) : (-1023 ≤ wrap64 (x * -1) ∧ wrap64 (x * -1) ≤ 1023) ↔ -1023 ≤ x ∧ x ≤ 1023 := by
  unfold wrap64
  omega
theorem ngW_within {n : P3} (hn : I3 n) : wB (ngW n) 1023 = wB n 1023 := by
  obtain ⟨h1, h2, h3⟩ := hn
  have a1 := ng1 h1
  have a2 := ng1 h2
  have a3 := ng1 h3
  rw [Bool.eq_iff_iff, wB_iff, wB_iff]
  unfold ngW
  simp only []
  rw [a1, a2, a3]
theorem ngW_lfK {p n : P3} {t h : Int} (hn : I3 n) : lfK p (ngW n) t h = lfK p n t h := by unfold lfK; rw [ngW_within hn]
theorem rnd_neg {s : Int} (hs : -260865 ≤ s ∧ s ≤ 260865) : 0 ≤ rnd s 1024 + rnd (-s) 1024 ∧ rnd s 1024 + rnd (-s) 1024 ≤ 1 := by
  rw [rnd_in (by omega), rnd_in (by omega)]
  omega
/-- What two lifts come to, less twice the point. -/
def twoD (p n : P3) (t h : Int) : P3 := sb (adE (lfP p n t h) (lfP p (ngW n) t h)) (scE p 2)
theorem two1 {x t h : Int} (hx : -1023 ≤ x ∧ x ≤ 1023) (ht : 0 ≤ t ∧ t ≤ 255) (hh : 0 ≤ h ∧ h ≤ 255) : 0 ≤ rnd (x * lfH t h) 1024 + rnd (wrap64 (x * -1) * lfH t h) 1024 ∧ rnd (x * lfH t h) 1024 + rnd (wrap64 (x * -1) * lfH t h) 1024 ≤ 1 := by
  have b := lf1_bd hx ht hh
  rw [show wrap64 (x * -1) = -x from (wrap_id (by omega) (by omega)).trans (by omega), Int.neg_mul]
  exact rnd_neg ⟨b.1, b.2.1⟩
theorem two_in {p n : P3} {t h : Int} (hn : I3 n) (hk : lfK p n t h = true) : wiB (twoD p n t h).x (twoD p n t h).y (twoD p n t h).z 1 = true := by
  have hk' : lfK p (ngW n) t h = true := by rw [ngW_lfK hn, hk]
  obtain ⟨hp, hn', ht, hh⟩ := lfK_yes hk
  rw [wB_iff] at hn'
  obtain ⟨_, n1, n2, n3⟩ := hn'
  have a1 := two1 n1 ht hh
  have a2 := two1 n2 ht hh
  have a3 := two1 n3 ht hh
  rw [wiB_iff]
  unfold twoD
  rw [lfP_yes hk, lfP_yes hk']
  unfold sb adE scE lfD rnP ngW scE
  simp only []
  omega
theorem two_sub {p n : P3} {t h : Int} (hn : I3 n) (hk : lfK p n t h = true) : InP 200000 (adE (lfP p n t h) (lfP p (ngW n) t h)) ∧ InP 200000 (scE p 2) := by
  have hk' : lfK p (ngW n) t h = true := by rw [ngW_lfK hn, hk]
  obtain ⟨hp, hn', ht, hh⟩ := lfK_yes hk
  have hd := lfD_bd hn' ht hh
  have hd' := lfD_bd (lfK_yes hk').2.1 ht hh
  rw [wB_iff] at hp
  rw [lfP_yes hk, lfP_yes hk']
  unfold InP adE scE
  simp only []
  omega
end Go.Proofs.Yteigionfaodafab
