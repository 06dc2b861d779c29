/- Texels: the program's and the document's. Blends, directions among four, lifted points: the program's. Lifted points and directions among four: the program's. The document's curves: a curve's point, a patch's point. A patch's sides: Row, the program's and the document's. Directions among four: the program's; the document's blends and lifted points. -/
import Derived.Test.YteigionfaodafaaC3
import Derived.Test.YteigionfaodafaaC4
namespace Go.Proofs.Yteigionfaodafaa
open Go.RowKit
set_option linter.unusedVariables false
set_option linter.unusedSimpArgs false
set_option linter.unnecessarySimpa false
set_option maxRecDepth 100000
theorem il_nat {W : World} {A : Option Addr} {rows : List Int} (h : IL W A rows) (i : Int) (h0 : 0 ≤ i) (hi : i.toNat < rows.length) : ∃ b off, A = some ⟨b, off, none⟩ ∧ b < W.heap.size ∧ W.cell? ⟨b, off + i.toNat, none⟩ = some (.int .i64 rows[i.toNat]) := h.at_ i.toNat hi
set_option maxHeartbeats 1000000 in
theorem texel_any (w : World) (nm : ByteArray) (W H : Int) (A : Option Addr) (c : Nat) (rows : List Int) (hA : IL w A rows) (hl : rows.length ≤ 1099511627776) (p : P3) :
    Calls Try.prog 10 #[.agg (texC nm W H A rows.length c), .agg #[.int .i64 p.x, .int .i64 p.y, .int .i64 p.z]] w fun e w' => e = .returned (.tuple #[.int .i64 (texV W H rows p), .bool (texK W H rows p)]) ∧ ∃ x, w' = grow w x := by
  refine Calls.mono (R := fun e w' => e = .returned (.tuple #[.int .i64 (texV W H rows p), .bool (texK W H rows p)]) ∧ Below w.heap.size w w') ?_ (fun _ _ ⟨he, hb⟩ => ⟨he, grow_of hb⟩)
  have k1 : ∀ W', Below w.heap.size w W' → Calls Try.prog 24 #[.agg #[.string nm, .int .i64 W, .int .i64 H, .slice A rows.length c]] W' fun e w' => e = .returned (.bool (rightF W H rows)) ∧ ∃ x, w' = grow W' x := fun W' hb => right_any W' nm W H A c rows (hA.below hb) hl
  have k2 : Gives Try.prog 19 #[.agg #[.int .i64 p.x, .int .i64 p.y, .int .i64 p.z], .int .i64 65536] (.bool (wi p)) := vWithin_any p.x p.y p.z 65536 (by omega)
  unfold texC
  cases hr : rightF W H rows
  · rw [hr] at k1
    rw [texV_no (show texK W H rows p = false by unfold texK; rw [hr]; rfl), show texK W H rows p = false by unfold texK; rw [hr]; rfl]
    clear hr hA
    go_enter Try.func10, Try.ntmps10
    go_wp2_with (first | (go_at_call 24; (with_reducible refine (k1 _ (by repeat (first | exact Below.refl _ _ | refine bel_then ?_ _ | refine bel_grow ?_ _ | refine bel_alloc ?_ _ | refine bel_drew ?_ | refine bel_set ?_ (by simp) _ | refine bel_setRow ?_ (by first | omega | (simp; done) | (refine Nat.le_trans ?_ (top_le _ _); simp; done) | (refine Nat.le_succ_of_le (Nat.le_trans ?_ (top_le _ _)); simp; done) | (refine Nat.le_trans ?_ (top_le _ _); simp only [World.size_alloc]; refine Nat.le_succ_of_le (Nat.le_trans ?_ (top_le _ _)); simp; done)) _))).mono ?_); rintro e w' ⟨rfl, xg, rfl⟩) | fail)
    go_ret2
    exact ⟨rfl, (by repeat (first | exact Below.refl _ _ | refine bel_then ?_ _ | refine bel_grow ?_ _ | refine bel_alloc ?_ _ | refine bel_drew ?_ | refine bel_set ?_ (by simp) _ | refine bel_setRow ?_ (by first | omega | (simp; done) | (refine Nat.le_trans ?_ (top_le _ _); simp; done) | (refine Nat.le_succ_of_le (Nat.le_trans ?_ (top_le _ _)); simp; done) | (refine Nat.le_trans ?_ (top_le _ _); simp only [World.size_alloc]; refine Nat.le_succ_of_le (Nat.le_trans ?_ (top_le _ _)); simp; done)) _))⟩
  · rw [hr] at k1
    cases hp : wi p
    · rw [hp] at k2
      rw [texV_no (show texK W H rows p = false by unfold texK; rw [hr, hp]; rfl), show texK W H rows p = false by unfold texK; rw [hr, hp]; rfl]
      clear hr hA hp
      go_enter Try.func10, Try.ntmps10
      go_wp2_with (first | (go_at_call 24; (with_reducible refine (k1 _ (by repeat (first | exact Below.refl _ _ | refine bel_then ?_ _ | refine bel_grow ?_ _ | refine bel_alloc ?_ _ | refine bel_drew ?_ | refine bel_set ?_ (by simp) _ | refine bel_setRow ?_ (by first | omega | (simp; done) | (refine Nat.le_trans ?_ (top_le _ _); simp; done) | (refine Nat.le_succ_of_le (Nat.le_trans ?_ (top_le _ _)); simp; done) | (refine Nat.le_trans ?_ (top_le _ _); simp only [World.size_alloc]; refine Nat.le_succ_of_le (Nat.le_trans ?_ (top_le _ _)); simp; done)) _))).mono ?_); rintro e w' ⟨rfl, xg, rfl⟩) | (go_at_call 19; (with_reducible refine (k2.at_ _).mono ?_); rintro e w' ⟨rfl, xh, rfl⟩) | fail)
      go_ret2
      exact ⟨rfl, (by repeat (first | exact Below.refl _ _ | refine bel_then ?_ _ | refine bel_grow ?_ _ | refine bel_alloc ?_ _ | refine bel_drew ?_ | refine bel_set ?_ (by simp) _ | refine bel_setRow ?_ (by first | omega | (simp; done) | (refine Nat.le_trans ?_ (top_le _ _); simp; done) | (refine Nat.le_succ_of_le (Nat.le_trans ?_ (top_le _ _)); simp; done) | (refine Nat.le_trans ?_ (top_le _ _); simp only [World.size_alloc]; refine Nat.le_succ_of_le (Nat.le_trans ?_ (top_le _ _)); simp; done)) _))⟩
    · rw [hp] at k2
      have hk : texK W H rows p = true := by unfold texK; rw [hr, hp]; rfl
      obtain ⟨hb, hi, e⟩ := texV_yes hk
      rw [e, hk]
      obtain ⟨hw, hh, hn, _⟩ := rightF_yes hr
      have hpb := (wiB_iff _ _ _ _).1 hp
      have kx := cell_any p.x W (by omega) hw.1 hw.2
      have ky := cell_any (p.y + p.z) H (by omega) hh.1 hh.2
      obtain ⟨r0, r1⟩ := cellN_bd (x := p.y + p.z) hh.1
      obtain ⟨c0, c1⟩ := cellN_bd (x := p.x) hw.1
      have hbd := WH_bd ⟨hw, hh⟩
      have hb2 : texN W H p < 256 := by omega
      have hrow : 0 ≤ cellN (p.y + p.z) H * W := Int.mul_nonneg r0 (by omega)
      obtain ⟨b, off, rfl, hbl, hc⟩ := il_nat hA (texN W H p) hb hi
      have hi' : texN W H p < (rows.length : Int) := by omega
      clear e hr hk hbd hn hp
      generalize rows[(texN W H p).toNat] = v at *
      unfold texN at *
      clear hA hi
      generalize rows.length = n at *
      obtain ⟨_, ⟨p1, p2⟩, ⟨p3, p4⟩, p5, p6⟩ := hpb
      obtain ⟨w1, w2⟩ := hw
      obtain ⟨h1, h2⟩ := hh
      go_enter Try.func10, Try.ntmps10
      go_upto_region 3 with (first | (go_at_call 24; (with_reducible refine (k1 _ (by repeat (first | exact Below.refl _ _ | refine bel_then ?_ _ | refine bel_grow ?_ _ | refine bel_alloc ?_ _ | refine bel_drew ?_ | refine bel_set ?_ (by simp) _ | refine bel_setRow ?_ (by first | omega | (simp; done) | (refine Nat.le_trans ?_ (top_le _ _); simp; done) | (refine Nat.le_succ_of_le (Nat.le_trans ?_ (top_le _ _)); simp; done) | (refine Nat.le_trans ?_ (top_le _ _); simp only [World.size_alloc]; refine Nat.le_succ_of_le (Nat.le_trans ?_ (top_le _ _)); simp; done)) _))).mono ?_); rintro e w' ⟨rfl, xg, rfl⟩) | (go_at_call 19; (with_reducible refine (k2.at_ _).mono ?_); rintro e w' ⟨rfl, xh, rfl⟩) | fail)
      refine wp_region_grow (by kernel_rfl) (by kernel_rfl) ?_
      repeat (go_big_quiet_step (((first | with_reducible exact kx.quiet _ | with_reducible exact kx.quiet2 _ _ | with_reducible exact ky.quiet _ | with_reducible exact ky.quiet2 _ _))))
      refine wpQuiet_nil ?_
      rintro _ ⟨xg, rfl⟩
      generalize cellN (p.y + p.z) H = row at *
      generalize cellN p.x W = col at *
      clear kx ky k1 k2
      go_wp2
      go_ret2
      exact ⟨rfl, (by repeat (first | exact Below.refl _ _ | refine bel_then ?_ _ | refine bel_grow ?_ _ | refine bel_alloc ?_ _ | refine bel_drew ?_ | refine bel_set ?_ (by simp) _ | refine bel_setRow ?_ (by first | omega | (simp; done) | (refine Nat.le_trans ?_ (top_le _ _); simp; done) | (refine Nat.le_succ_of_le (Nat.le_trans ?_ (top_le _ _)); simp; done) | (refine Nat.le_trans ?_ (top_le _ _); simp only [World.size_alloc]; refine Nat.le_succ_of_le (Nat.le_trans ?_ (top_le _ _)); simp; done)) _))⟩
set_option maxHeartbeats 1000000 in
theorem rTexel_any (w : World) (nm : ByteArray) (W H : Int) (A : Option Addr) (c : Nat) (rows : List Int) (hA : IL w A rows) (hl : rows.length ≤ 1099511627776) (p : P3) :
    Calls Try.prog 11 #[.agg (texC nm W H A rows.length c), .agg #[.int .i64 p.x, .int .i64 p.y, .int .i64 p.z]] w fun e w' => e = .returned (.tuple #[.int .i64 (texV W H rows p), .bool (texK W H rows p)]) ∧ ∃ x, w' = grow w x := by
  refine Calls.mono (R := fun e w' => e = .returned (.tuple #[.int .i64 (texV W H rows p), .bool (texK W H rows p)]) ∧ Below w.heap.size w w') ?_ (fun _ _ ⟨he, hb⟩ => ⟨he, grow_of hb⟩)
  have k1 : ∀ W', Below w.heap.size w W' → Calls Try.prog 26 #[.agg #[.string nm, .int .i64 W, .int .i64 H, .slice A rows.length c]] W' fun e w' => e = .returned (.bool (rightF W H rows)) ∧ ∃ x, w' = grow W' x := fun W' hb => rRight_any W' nm W H A c rows (hA.below hb) hl
  have k2 : Gives Try.prog 27 #[.agg #[.int .i64 p.x, .int .i64 p.y, .int .i64 p.z], .int .i64 65536] (.bool (wi p)) := uWin_any p.x p.y p.z 65536 (by omega) (by omega)
  unfold texC
  cases hr : rightF W H rows
  · rw [hr] at k1
    rw [texV_no (show texK W H rows p = false by unfold texK; rw [hr]; rfl), show texK W H rows p = false by unfold texK; rw [hr]; rfl]
    clear hr hA
    go_enter Try.func11, Try.ntmps11
    go_wp2_with (first | (go_at_call 26; (with_reducible refine (k1 _ (by repeat (first | exact Below.refl _ _ | refine bel_then ?_ _ | refine bel_grow ?_ _ | refine bel_alloc ?_ _ | refine bel_drew ?_ | refine bel_set ?_ (by simp) _ | refine bel_setRow ?_ (by first | omega | (simp; done) | (refine Nat.le_trans ?_ (top_le _ _); simp; done) | (refine Nat.le_succ_of_le (Nat.le_trans ?_ (top_le _ _)); simp; done) | (refine Nat.le_trans ?_ (top_le _ _); simp only [World.size_alloc]; refine Nat.le_succ_of_le (Nat.le_trans ?_ (top_le _ _)); simp; done)) _))).mono ?_); rintro e w' ⟨rfl, xg, rfl⟩) | fail)
    go_ret2
    exact ⟨rfl, (by repeat (first | exact Below.refl _ _ | refine bel_then ?_ _ | refine bel_grow ?_ _ | refine bel_alloc ?_ _ | refine bel_drew ?_ | refine bel_set ?_ (by simp) _ | refine bel_setRow ?_ (by first | omega | (simp; done) | (refine Nat.le_trans ?_ (top_le _ _); simp; done) | (refine Nat.le_succ_of_le (Nat.le_trans ?_ (top_le _ _)); simp; done) | (refine Nat.le_trans ?_ (top_le _ _); simp only [World.size_alloc]; refine Nat.le_succ_of_le (Nat.le_trans ?_ (top_le _ _)); simp; done)) _))⟩
  · rw [hr] at k1
    cases hp : wi p
    · rw [hp] at k2
      rw [texV_no (show texK W H rows p = false by unfold texK; rw [hr, hp]; rfl), show texK W H rows p = false by unfold texK; rw [hr, hp]; rfl]
      clear hr hA hp
      go_enter Try.func11, Try.ntmps11
      go_wp2_with (first | (go_at_call 26; (with_reducible refine (k1 _ (by repeat (first | exact Below.refl _ _ | refine bel_then ?_ _ | refine bel_grow ?_ _ | refine bel_alloc ?_ _ | refine bel_drew ?_ | refine bel_set ?_ (by simp) _ | refine bel_setRow ?_ (by first | omega | (simp; done) | (refine Nat.le_trans ?_ (top_le _ _); simp; done) | (refine Nat.le_succ_of_le (Nat.le_trans ?_ (top_le _ _)); simp; done) | (refine Nat.le_trans ?_ (top_le _ _); simp only [World.size_alloc]; refine Nat.le_succ_of_le (Nat.le_trans ?_ (top_le _ _)); simp; done)) _))).mono ?_); rintro e w' ⟨rfl, xg, rfl⟩) | (go_at_call 27; (with_reducible refine (k2.at_ _).mono ?_); rintro e w' ⟨rfl, xh, rfl⟩) | fail)
      go_ret2
      exact ⟨rfl, (by repeat (first | exact Below.refl _ _ | refine bel_then ?_ _ | refine bel_grow ?_ _ | refine bel_alloc ?_ _ | refine bel_drew ?_ | refine bel_set ?_ (by simp) _ | refine bel_setRow ?_ (by first | omega | (simp; done) | (refine Nat.le_trans ?_ (top_le _ _); simp; done) | (refine Nat.le_succ_of_le (Nat.le_trans ?_ (top_le _ _)); simp; done) | (refine Nat.le_trans ?_ (top_le _ _); simp only [World.size_alloc]; refine Nat.le_succ_of_le (Nat.le_trans ?_ (top_le _ _)); simp; done)) _))⟩
    · rw [hp] at k2
      have hk : texK W H rows p = true := by unfold texK; rw [hr, hp]; rfl
      obtain ⟨hb, hi, e⟩ := texV_yes hk
      rw [e, hk]
      obtain ⟨hw, hh, hn, _⟩ := rightF_yes hr
      have hpb := (wiB_iff _ _ _ _).1 hp
      have kx := step_any p.x W (by omega) hw.1 hw.2
      have ky := step_any (p.y + p.z) H (by omega) hh.1 hh.2
      obtain ⟨r0, r1⟩ := cellN_bd (x := p.y + p.z) hh.1
      obtain ⟨c0, c1⟩ := cellN_bd (x := p.x) hw.1
      have hbd := WH_bd ⟨hw, hh⟩
      have hb2 : texN W H p < 256 := by omega
      have hrow : 0 ≤ cellN (p.y + p.z) H * W := Int.mul_nonneg r0 (by omega)
      obtain ⟨b, off, rfl, hbl, hc⟩ := il_nat hA (texN W H p) hb hi
      have hi' : texN W H p < (rows.length : Int) := by omega
      clear e hr hk hbd hn hp
      generalize rows[(texN W H p).toNat] = v at *
      unfold texN at *
      clear hA hi
      generalize rows.length = n at *
      obtain ⟨_, ⟨p1, p2⟩, ⟨p3, p4⟩, p5, p6⟩ := hpb
      obtain ⟨w1, w2⟩ := hw
      obtain ⟨h1, h2⟩ := hh
      go_enter Try.func11, Try.ntmps11
      go_wp2_with (first | (go_at_call 26; (with_reducible refine (k1 _ (by repeat (first | exact Below.refl _ _ | refine bel_then ?_ _ | refine bel_grow ?_ _ | refine bel_alloc ?_ _ | refine bel_drew ?_ | refine bel_set ?_ (by simp) _ | refine bel_setRow ?_ (by first | omega | (simp; done) | (refine Nat.le_trans ?_ (top_le _ _); simp; done) | (refine Nat.le_succ_of_le (Nat.le_trans ?_ (top_le _ _)); simp; done) | (refine Nat.le_trans ?_ (top_le _ _); simp only [World.size_alloc]; refine Nat.le_succ_of_le (Nat.le_trans ?_ (top_le _ _)); simp; done)) _))).mono ?_); rintro e w' ⟨rfl, xg, rfl⟩) | (go_at_call 27; (with_reducible refine (k2.at_ _).mono ?_); rintro e w' ⟨rfl, xh, rfl⟩) | fail)
      generalize cellN (p.y + p.z) H = row at *
      generalize cellN p.x W = col at *
      refine wp_region_grow (by kernel_rfl) (by kernel_rfl) ?_
      repeat (go_big_quiet_step (((first | with_reducible exact kx.quiet _ | with_reducible exact kx.quiet2 _ _ | with_reducible exact ky.quiet _ | with_reducible exact ky.quiet2 _ _))))
      refine wpQuiet_nil ?_
      rintro _ ⟨xg, rfl⟩
      go_wp2
      go_ret2
      exact ⟨rfl, (by repeat (first | exact Below.refl _ _ | refine bel_then ?_ _ | refine bel_grow ?_ _ | refine bel_alloc ?_ _ | refine bel_drew ?_ | refine bel_set ?_ (by simp) _ | refine bel_setRow ?_ (by first | omega | (simp; done) | (refine Nat.le_trans ?_ (top_le _ _); simp; done) | (refine Nat.le_succ_of_le (Nat.le_trans ?_ (top_le _ _)); simp; done) | (refine Nat.le_trans ?_ (top_le _ _); simp only [World.size_alloc]; refine Nat.le_succ_of_le (Nat.le_trans ?_ (top_le _ _)); simp; done)) _))⟩
end Go.Proofs.Yteigionfaodafaa
namespace Go.Proofs.Yteigionfaodafaa
open Go.RowKit
set_option linter.unusedVariables false
set_option linter.unusedSimpArgs false
set_option linter.unnecessarySimpa false
set_option maxRecDepth 100000
theorem sc_in {q : P3} {k : Int} (hq : wB q 1023 = true) (hk : 0 ≤ k ∧ k ≤ 16) : (wrap64 (q.x * k) = (scE q k).x ∧ wrap64 (q.y * k) = (scE q k).y ∧ wrap64 (q.z * k) = (scE q k).z) ∧ (-16368 ≤ (scE q k).x ∧ (scE q k).x ≤ 16368) ∧ (-16368 ≤ (scE q k).y ∧ (scE q k).y ≤ 16368) ∧ -16368 ≤ (scE q k).z ∧ (scE q k).z ≤ 16368 := by
  rw [wB_iff] at hq
  obtain ⟨_, a1, a2, a3⟩ := hq
  have c1 := mul_1023 a1 hk
  have c2 := mul_1023 a2 hk
  have c3 := mul_1023 a3 hk
  exact ⟨⟨wrap_id (by omega) (by omega), wrap_id (by omega) (by omega), wrap_id (by omega) (by omega)⟩, c1, c2, c3⟩
theorem vScale_r {q : P3} {k : Int} (hq : wB q 1023 = true) (hk : 0 ≤ k ∧ k ≤ 16) : Gives Try.prog 31 #[.agg #[.int .i64 q.x, .int .i64 q.y, .int .i64 q.z], .int .i64 k] (.agg #[.int .i64 (scE q k).x, .int .i64 (scE q k).y, .int .i64 (scE q k).z]) := by
  have h := vScale_any q.x q.y q.z k
  obtain ⟨⟨h1, h2, h3⟩, _⟩ := sc_in hq hk
  rw [h1, h2, h3] at h
  exact h
theorem rScale_r {q : P3} {k : Int} (hq : wB q 1023 = true) (hk : 0 ≤ k ∧ k ≤ 16) : Gives Try.prog 33 #[.agg #[.int .i64 q.x, .int .i64 q.y, .int .i64 q.z], .int .i64 k] (.agg #[.int .i64 (scE q k).x, .int .i64 (scE q k).y, .int .i64 (scE q k).z]) := by
  have h := rScale_any q.x q.y q.z k
  obtain ⟨⟨h1, h2, h3⟩, _⟩ := sc_in hq hk
  rw [h1, h2, h3] at h
  exact h
theorem ad_in {a b : P3} (h : InP 4611686018427387904 (adE a b)) : wrap64 (a.x + b.x) = (adE a b).x ∧ wrap64 (a.y + b.y) = (adE a b).y ∧ wrap64 (a.z + b.z) = (adE a b).z := by
  obtain ⟨h1, h2, h3⟩ := h
  exact ⟨wrap_id (by unfold adE at h1; simp only at h1; omega) (by unfold adE at h1; simp only at h1; omega), wrap_id (by unfold adE at h2; simp only at h2; omega) (by unfold adE at h2; simp only at h2; omega), wrap_id (by unfold adE at h3; simp only at h3; omega) (by unfold adE at h3; simp only at h3; omega)⟩
theorem vAdd_r {a b : P3} (h : InP 4611686018427387904 (adE a b)) : Gives Try.prog 30 #[.agg #[.int .i64 a.x, .int .i64 a.y, .int .i64 a.z], .agg #[.int .i64 b.x, .int .i64 b.y, .int .i64 b.z]] (.agg #[.int .i64 (adE a b).x, .int .i64 (adE a b).y, .int .i64 (adE a b).z]) := by
  have k := vAdd_any a.x a.y a.z b.x b.y b.z
  obtain ⟨h1, h2, h3⟩ := ad_in h
  rw [h1, h2, h3] at k
  exact k
theorem rAdd_r {a b : P3} (h : InP 4611686018427387904 (adE a b)) : Gives Try.prog 23 #[.agg #[.int .i64 a.x, .int .i64 a.y, .int .i64 a.z], .agg #[.int .i64 b.x, .int .i64 b.y, .int .i64 b.z]] (.agg #[.int .i64 (adE a b).x, .int .i64 (adE a b).y, .int .i64 (adE a b).z]) := by
  have k := rAdd_any a.x a.y a.z b.x b.y b.z
  obtain ⟨h1, h2, h3⟩ := ad_in h
  rw [h1, h2, h3] at k
  exact k
theorem blS_bd {a b : P3} {i n : Int} (h : blK a b i n = true) : InP 16368 (blS a b i n) := by
  obtain ⟨h1, h2, h3⟩ := blK_yes h
  rw [wB_iff] at *
  obtain ⟨_, a1, a2, a3⟩ := h2
  obtain ⟨_, b1, b2, b3⟩ := h3
  exact ⟨bl1_bd h1 a1 b1, bl1_bd h1 a2 b2, bl1_bd h1 a3 b3⟩
theorem InP.up {m n : Int} {p : P3} (h : InP m p) (hm : m ≤ n) : InP n p := by
  obtain ⟨h1, h2, h3⟩ := h
  exact ⟨⟨by omega, by omega⟩, ⟨by omega, by omega⟩, by omega, by omega⟩
set_option maxHeartbeats 1000000 in
theorem blend_any (a b : P3) (i n : Int) (hi : -9223372036854775808 ≤ i ∧ i ≤ 9223372036854775807) (hn : -9223372036854775808 ≤ n ∧ n ≤ 9223372036854775807) :
    Gives Try.prog 12 #[.agg #[.int .i64 a.x, .int .i64 a.y, .int .i64 a.z], .agg #[.int .i64 b.x, .int .i64 b.y, .int .i64 b.z], .int .i64 i, .int .i64 n] (.tuple #[.agg #[.int .i64 (blP a b i n).x, .int .i64 (blP a b i n).y, .int .i64 (blP a b i n).z], .bool (blK a b i n)]) := by
  have k1 : Gives Try.prog 19 #[.agg #[.int .i64 a.x, .int .i64 a.y, .int .i64 a.z], .int .i64 1023] (.bool (wB a 1023)) := vWithin_any a.x a.y a.z 1023 (by omega)
  have k2 : Gives Try.prog 19 #[.agg #[.int .i64 b.x, .int .i64 b.y, .int .i64 b.z], .int .i64 1023] (.bool (wB b 1023)) := vWithin_any b.x b.y b.z 1023 (by omega)
  by_cases hp : 1 ≤ n ∧ n ≤ 16 ∧ 0 ≤ i ∧ i ≤ n
  · obtain ⟨n1, n2, i1, i2⟩ := hp
    have hpk : plK i n = true := decide_eq_true ⟨n1, n2, i1, i2⟩
    cases ha : wB a 1023
    · have hk : blK a b i n = false := by unfold blK; rw [ha, hpk]; rfl
      rw [ha] at k1
      rw [blP_no hk, hk]
      clear hk ha hpk
      refine Gives.mk fun w => ?_
      go_enter Try.func12, Try.ntmps12
      go_wp2_with (first | (go_at_call 19; first | ((with_reducible refine (k1.at_ _).mono ?_); rintro e w' ⟨rfl, xg, rfl⟩) | ((with_reducible refine (k2.at_ _).mono ?_); rintro e w' ⟨rfl, xg, rfl⟩)) | fail)
      refine bodyPost_ret (v := .tuple #[.agg #[.int .i64 N3.x, .int .i64 N3.y, .int .i64 N3.z], .bool false]) (by simp [results, Try.results12, go_sem, N3]) rfl ⟨rfl, (by repeat (first | exact Below.refl _ _ | refine bel_then ?_ _ | refine bel_grow ?_ _ | refine bel_alloc ?_ _ | refine bel_drew ?_ | refine bel_set ?_ (by simp) _ | refine bel_setRow ?_ (by first | omega | (simp; done) | (refine Nat.le_trans ?_ (top_le _ _); simp; done) | (refine Nat.le_succ_of_le (Nat.le_trans ?_ (top_le _ _)); simp; done) | (refine Nat.le_trans ?_ (top_le _ _); simp only [World.size_alloc]; refine Nat.le_succ_of_le (Nat.le_trans ?_ (top_le _ _)); simp; done)) _))⟩
    · rw [ha] at k1
      cases hb : wB b 1023
      · have hk : blK a b i n = false := by unfold blK; rw [ha, hpk, hb]; rfl
        rw [hb] at k2
        rw [blP_no hk, hk]
        clear hk ha hpk hb
        refine Gives.mk fun w => ?_
        go_enter Try.func12, Try.ntmps12
        go_wp2_with (first | (go_at_call 19; first | ((with_reducible refine (k1.at_ _).mono ?_); rintro e w' ⟨rfl, xg, rfl⟩) | ((with_reducible refine (k2.at_ _).mono ?_); rintro e w' ⟨rfl, xg, rfl⟩)) | fail)
        refine bodyPost_ret (v := .tuple #[.agg #[.int .i64 N3.x, .int .i64 N3.y, .int .i64 N3.z], .bool false]) (by simp [results, Try.results12, go_sem, N3]) rfl ⟨rfl, (by repeat (first | exact Below.refl _ _ | refine bel_then ?_ _ | refine bel_grow ?_ _ | refine bel_alloc ?_ _ | refine bel_drew ?_ | refine bel_set ?_ (by simp) _ | refine bel_setRow ?_ (by first | omega | (simp; done) | (refine Nat.le_trans ?_ (top_le _ _); simp; done) | (refine Nat.le_succ_of_le (Nat.le_trans ?_ (top_le _ _)); simp; done) | (refine Nat.le_trans ?_ (top_le _ _); simp only [World.size_alloc]; refine Nat.le_succ_of_le (Nat.le_trans ?_ (top_le _ _)); simp; done)) _))⟩
      · have hk : blK a b i n = true := by unfold blK; rw [ha, hpk, hb]; rfl
        rw [hb] at k2
        have k3 := vScale_r ha (k := n - i) (by omega)
        have k4 := vScale_r hb (k := i) (by omega)
        have hS := blS_bd hk
        have k5 := vAdd_r (a := scE a (n - i)) (b := scE b i) (hS.up (by omega))
        have k6 := vOf_any (adE (scE a (n - i)) (scE b i)) n (by obtain ⟨h1, h2, h3⟩ := hS; exact ⟨⟨by unfold blS at h1; omega, by unfold blS at h1; omega⟩, ⟨by unfold blS at h2; omega, by unfold blS at h2; omega⟩, by unfold blS at h3; omega, by unfold blS at h3; omega⟩) (by omega)
        rw [blP_yes hk, hk]
        unfold blS at *
        generalize adE (scE a (n - i)) (scE b i) = s at *
        generalize scE a (n - i) = u1 at *
        generalize scE b i = u2 at *
        generalize rnP s n = q at *
        clear hk ha hb hpk hS
        refine Gives.mk fun w => ?_
        go_enter Try.func12, Try.ntmps12
        go_upto_region 3 with (first | (go_at_call 19; first | ((with_reducible refine (k1.at_ _).mono ?_); rintro e w' ⟨rfl, xg, rfl⟩) | ((with_reducible refine (k2.at_ _).mono ?_); rintro e w' ⟨rfl, xg, rfl⟩)) | fail)
        clear k1 k2
        refine wp_region_tail 11 ?_ (by kernel_rfl) (by kernel_rfl) (by kernel_rfl) (fun x => ?_) (fun x => ?_)
        rotate_left
        · simp only [List.take_succ_cons, List.take_zero]
          repeat (go_big_quiet_step (((first | with_reducible exact k3.quiet _ | with_reducible exact k3.quiet2 _ _ | with_reducible exact k4.quiet _ | with_reducible exact k4.quiet2 _ _ | with_reducible exact k5.quiet _ | with_reducible exact k5.quiet2 _ _ | with_reducible exact k6.quiet _ | with_reducible exact k6.quiet2 _ _))))
          refine wpQuiet_nil ?_
          exact rfl
        simp only [List.drop_succ_cons, List.drop_zero]
        try simp only [Act.put, List.setIfInBounds_toArray, List.set_cons_succ, List.set_cons_zero]
        go_wp2
        refine bodyPost_ret (v := .tuple #[.agg #[.int .i64 q.x, .int .i64 q.y, .int .i64 q.z], .bool true]) (by simp [results, Try.results12, go_sem]) rfl ⟨rfl, (by repeat (first | exact Below.refl _ _ | refine bel_then ?_ _ | refine bel_grow ?_ _ | refine bel_alloc ?_ _ | refine bel_drew ?_ | refine bel_set ?_ (by simp) _ | refine bel_setRow ?_ (by first | omega | (simp; done) | (refine Nat.le_trans ?_ (top_le _ _); simp; done) | (refine Nat.le_succ_of_le (Nat.le_trans ?_ (top_le _ _)); simp; done) | (refine Nat.le_trans ?_ (top_le _ _); simp only [World.size_alloc]; refine Nat.le_succ_of_le (Nat.le_trans ?_ (top_le _ _)); simp; done)) _))⟩
  · have hk : blK a b i n = false := by unfold blK; rw [show plK i n = false from decide_eq_false hp]; rfl
    rw [blP_no hk, hk]
    clear hk
    rcases (by omega : n < 1 ∨ (1 ≤ n ∧ 16 < n) ∨ (1 ≤ n ∧ n ≤ 16 ∧ i < 0) ∨ (1 ≤ n ∧ n ≤ 16 ∧ 0 ≤ i ∧ n < i)) with h1 | ⟨h1, h2⟩ | ⟨h1, h2, h3⟩ | ⟨h1, h2, h3, h4⟩
    all_goals
      clear hp
      refine Gives.mk fun w => ?_
      go_enter Try.func12, Try.ntmps12
      go_wp2_with fail
      all_goals
        refine bodyPost_ret (v := .tuple #[.agg #[.int .i64 N3.x, .int .i64 N3.y, .int .i64 N3.z], .bool false]) (by simp [results, Try.results12, go_sem, N3]) rfl ⟨rfl, (by repeat (first | exact Below.refl _ _ | refine bel_then ?_ _ | refine bel_grow ?_ _ | refine bel_alloc ?_ _ | refine bel_drew ?_ | refine bel_set ?_ (by simp) _ | refine bel_setRow ?_ (by first | omega | (simp; done) | (refine Nat.le_trans ?_ (top_le _ _); simp; done) | (refine Nat.le_succ_of_le (Nat.le_trans ?_ (top_le _ _)); simp; done) | (refine Nat.le_trans ?_ (top_le _ _); simp only [World.size_alloc]; refine Nat.le_succ_of_le (Nat.le_trans ?_ (top_le _ _)); simp; done)) _))⟩
end Go.Proofs.Yteigionfaodafaa
namespace Go.Proofs.Yteigionfaodafaa
open Go.RowKit
set_option linter.unusedVariables false
set_option linter.unusedSimpArgs false
set_option linter.unnecessarySimpa false
set_option maxRecDepth 100000
theorem lfS_bd {n : P3} {t h : Int} (hn : wB n 1023 = true) (ht : 0 ≤ t ∧ t ≤ 255) (hh : 0 ≤ h ∧ h ≤ 255) : (wrap64 (n.x * lfH t h) = (scE n (lfH t h)).x ∧ wrap64 (n.y * lfH t h) = (scE n (lfH t h)).y ∧ wrap64 (n.z * lfH t h) = (scE n (lfH t h)).z) ∧ (-1099511627776 ≤ (scE n (lfH t h)).x ∧ (scE n (lfH t h)).x ≤ 1099511627776) ∧ (-1099511627776 ≤ (scE n (lfH t h)).y ∧ (scE n (lfH t h)).y ≤ 1099511627776) ∧ -1099511627776 ≤ (scE n (lfH t h)).z ∧ (scE n (lfH t h)).z ≤ 1099511627776 := by
  rw [wB_iff] at hn
  obtain ⟨_, n1, n2, n3⟩ := hn
  have a1 := lf1_bd n1 ht hh
  have a2 := lf1_bd n2 ht hh
  have a3 := lf1_bd n3 ht hh
  exact ⟨⟨wrap_id (by omega) (by omega), wrap_id (by omega) (by omega), wrap_id (by omega) (by omega)⟩, ⟨by unfold scE; simp only; omega, by unfold scE; simp only; omega⟩, ⟨by unfold scE; simp only; omega, by unfold scE; simp only; omega⟩, by unfold scE; simp only; omega, by unfold scE; simp only; omega⟩
theorem lfA_bd {p n : P3} {t h : Int} (hp : wB p 65024 = true) (hn : wB n 1023 = true) (ht : 0 ≤ t ∧ t ≤ 255) (hh : 0 ≤ h ∧ h ≤ 255) : InP 4611686018427387904 (adE p (lfD n t h)) := by
  have := lfD_bd hn ht hh
  rw [wB_iff] at hp
  unfold InP adE
  simp only
  omega
set_option maxHeartbeats 1000000 in
theorem lift_any (p n : P3) (t h : Int) (ht0 : -9223372036854775808 ≤ t ∧ t ≤ 9223372036854775807) (hh0 : -9223372036854775808 ≤ h ∧ h ≤ 9223372036854775807) :
    Gives Try.prog 16 #[.agg #[.int .i64 p.x, .int .i64 p.y, .int .i64 p.z], .agg #[.int .i64 n.x, .int .i64 n.y, .int .i64 n.z], .int .i64 t, .int .i64 h] (.tuple #[.agg #[.int .i64 (lfP p n t h).x, .int .i64 (lfP p n t h).y, .int .i64 (lfP p n t h).z], .bool (lfK p n t h)]) := by
  have k1 : Gives Try.prog 19 #[.agg #[.int .i64 p.x, .int .i64 p.y, .int .i64 p.z], .int .i64 65024] (.bool (wB p 65024)) := vWithin_any p.x p.y p.z 65024 (by omega)
  have k2 : Gives Try.prog 19 #[.agg #[.int .i64 n.x, .int .i64 n.y, .int .i64 n.z], .int .i64 1023] (.bool (wB n 1023)) := vWithin_any n.x n.y n.z 1023 (by omega)
  have k3 := lit_any t
  by_cases hk : lfK p n t h = true
  · obtain ⟨hp, hn, ht, hh⟩ := lfK_yes hk
    rw [hp] at k1
    rw [hn] at k2
    rw [decide_eq_true ht] at k3
    have b0 := th_bd ht hh
    have hw : wrap64 (t * h) = t * h := wrap_id (by omega) (by omega)
    have k4 : Gives Try.prog 35 #[.int .i64 (t * h), .int .i64 255] (.int .i64 (lfH t h)) := vRound_any (t * h) 255 (by omega) (by omega) (by omega) (by omega)
    have k5 := vScale_any n.x n.y n.z (lfH t h)
    obtain ⟨⟨s1, s2, s3⟩, s4⟩ := lfS_bd hn ht hh
    rw [s1, s2, s3] at k5
    have k6 : Gives Try.prog 29 #[.agg #[.int .i64 (scE n (lfH t h)).x, .int .i64 (scE n (lfH t h)).y, .int .i64 (scE n (lfH t h)).z], .int .i64 1024] (.agg #[.int .i64 (lfD n t h).x, .int .i64 (lfD n t h).y, .int .i64 (lfD n t h).z]) := vOf_any (scE n (lfH t h)) 1024 s4 (by omega)
    have k7 := vAdd_r (lfA_bd hp hn ht hh)
    rw [lfP_yes hk, hk]
    obtain ⟨h1, h2⟩ := hh
    obtain ⟨t1, t2⟩ := ht
    clear hk hp hn s1 s2 s3 s4 b0 ht0 hh0
    generalize adE p (lfD n t h) = q at *
    generalize lfD n t h = d at *
    generalize scE n (lfH t h) = s at *
    generalize lfH t h = u at *
    refine Gives.mk fun w => ?_
    go_enter Try.func16, Try.ntmps16
    go_upto_region 4 with (first | (go_at_call 19; first | ((with_reducible refine (k1.at_ _).mono ?_); rintro e w' ⟨rfl, xg, rfl⟩) | ((with_reducible refine (k2.at_ _).mono ?_); rintro e w' ⟨rfl, xg, rfl⟩)) | (go_at_call 34; (with_reducible refine (k3.at_ _).mono ?_); rintro e w' ⟨rfl, xg, rfl⟩) | (go_at_call 35; (with_reducible refine (k4.at_ _).mono ?_); rintro e w' ⟨rfl, xg, rfl⟩) | fail)
    clear k1 k2 k3 k4
    refine wp_region_tail 6 ?_ (by kernel_rfl) (by kernel_rfl) (by kernel_rfl) (fun x => ?_) (fun x => ?_)
    rotate_left
    · simp only [List.take_succ_cons, List.take_zero]
      repeat (go_big_quiet_step (((first | with_reducible exact k5.quiet _ | with_reducible exact k5.quiet2 _ _ | with_reducible exact k6.quiet _ | with_reducible exact k6.quiet2 _ _ | with_reducible exact k7.quiet _ | with_reducible exact k7.quiet2 _ _))))
      refine wpQuiet_nil ?_
      exact rfl
    simp only [List.drop_succ_cons, List.drop_zero]
    try simp only [Act.put, List.setIfInBounds_toArray, List.set_cons_succ, List.set_cons_zero]
    go_wp2
    refine bodyPost_ret (v := .tuple #[.agg #[.int .i64 q.x, .int .i64 q.y, .int .i64 q.z], .bool true]) (by simp [results, Try.results16, go_sem]) rfl ⟨rfl, (by repeat (first | exact Below.refl _ _ | refine bel_then ?_ _ | refine bel_grow ?_ _ | refine bel_alloc ?_ _ | refine bel_drew ?_ | refine bel_set ?_ (by simp) _ | refine bel_setRow ?_ (by first | omega | (simp; done) | (refine Nat.le_trans ?_ (top_le _ _); simp; done) | (refine Nat.le_succ_of_le (Nat.le_trans ?_ (top_le _ _)); simp; done) | (refine Nat.le_trans ?_ (top_le _ _); simp only [World.size_alloc]; refine Nat.le_succ_of_le (Nat.le_trans ?_ (top_le _ _)); simp; done)) _))⟩
  · have hk : lfK p n t h = false := by simpa using hk
    rw [lfP_no hk, hk]
    unfold lfK at hk
    generalize wB p 65024 = c1 at *
    generalize wB n 1023 = c2 at *
    generalize hc3 : decide (0 ≤ t ∧ t ≤ 255) = c3 at *
    cases c1
    rotate_left
    cases c2
    rotate_left
    cases c3
    rotate_left
    · have hh : h < 0 ∨ (0 ≤ h ∧ 255 < h) := by
        have := of_decide_eq_false (by simpa using hk : decide (0 ≤ h ∧ h ≤ 255) = false)
        omega
      clear hk hc3
      rcases hh with h1 | ⟨h1, h2⟩
      all_goals
        refine Gives.mk fun w => ?_
        go_enter Try.func16, Try.ntmps16
        go_wp2_with (first | (go_at_call 19; first | ((with_reducible refine (k1.at_ _).mono ?_); rintro e w' ⟨rfl, xg, rfl⟩) | ((with_reducible refine (k2.at_ _).mono ?_); rintro e w' ⟨rfl, xg, rfl⟩)) | (go_at_call 34; (with_reducible refine (k3.at_ _).mono ?_); rintro e w' ⟨rfl, xg, rfl⟩) | fail)
        refine bodyPost_ret (v := .tuple #[.agg #[.int .i64 N3.x, .int .i64 N3.y, .int .i64 N3.z], .bool false]) (by simp [results, Try.results16, go_sem, N3]) rfl ⟨rfl, (by repeat (first | exact Below.refl _ _ | refine bel_then ?_ _ | refine bel_grow ?_ _ | refine bel_alloc ?_ _ | refine bel_drew ?_ | refine bel_set ?_ (by simp) _ | refine bel_setRow ?_ (by first | omega | (simp; done) | (refine Nat.le_trans ?_ (top_le _ _); simp; done) | (refine Nat.le_succ_of_le (Nat.le_trans ?_ (top_le _ _)); simp; done) | (refine Nat.le_trans ?_ (top_le _ _); simp only [World.size_alloc]; refine Nat.le_succ_of_le (Nat.le_trans ?_ (top_le _ _)); simp; done)) _))⟩
    all_goals
      clear hk hc3
      refine Gives.mk fun w => ?_
      go_enter Try.func16, Try.ntmps16
      go_wp2_with (first | (go_at_call 19; first | ((with_reducible refine (k1.at_ _).mono ?_); rintro e w' ⟨rfl, xg, rfl⟩) | ((with_reducible refine (k2.at_ _).mono ?_); rintro e w' ⟨rfl, xg, rfl⟩)) | (go_at_call 34; (with_reducible refine (k3.at_ _).mono ?_); rintro e w' ⟨rfl, xg, rfl⟩) | fail)
      refine bodyPost_ret (v := .tuple #[.agg #[.int .i64 N3.x, .int .i64 N3.y, .int .i64 N3.z], .bool false]) (by simp [results, Try.results16, go_sem, N3]) rfl ⟨rfl, (by repeat (first | exact Below.refl _ _ | refine bel_then ?_ _ | refine bel_grow ?_ _ | refine bel_alloc ?_ _ | refine bel_drew ?_ | refine bel_set ?_ (by simp) _ | refine bel_setRow ?_ (by first | omega | (simp; done) | (refine Nat.le_trans ?_ (top_le _ _); simp; done) | (refine Nat.le_succ_of_le (Nat.le_trans ?_ (top_le _ _)); simp; done) | (refine Nat.le_trans ?_ (top_le _ _); simp only [World.size_alloc]; refine Nat.le_succ_of_le (Nat.le_trans ?_ (top_le _ _)); simp; done)) _))⟩
end Go.Proofs.Yteigionfaodafaa
namespace Go.Proofs.Yteigionfaodafaa
open Go.RowKit
set_option linter.unusedVariables false
set_option linter.unusedSimpArgs false
set_option linter.unnecessarySimpa false
set_option maxRecDepth 100000
end Go.Proofs.Yteigionfaodafaa
namespace Go.Proofs.Yteigionfaodafaa
open Go.RowKit
set_option linter.unusedVariables false
set_option linter.unusedSimpArgs false
set_option linter.unnecessarySimpa false
set_option maxRecDepth 100000
theorem ptsC4 (q : Nat → P3) : ptsC 4 q = #[.int .i64 (q 0).x, .int .i64 (q 0).y, .int .i64 (q 0).z, .int .i64 (q 1).x, .int .i64 (q 1).y, .int .i64 (q 1).z, .int .i64 (q 2).x, .int .i64 (q 2).y, .int .i64 (q 2).z, .int .i64 (q 3).x, .int .i64 (q 3).y, .int .i64 (q 3).z] := rfl
end Go.Proofs.Yteigionfaodafaa
namespace Go.Proofs.Yteigionfaodafaa
open Go.RowKit
set_option linter.unusedVariables false
set_option linter.unusedSimpArgs false
set_option linter.unnecessarySimpa false
set_option maxRecDepth 100000
theorem mxP_no0 {n : Nat → P3} {i k j m : Int} (h : blK (n 0) (n 1) i k = false) : mxK n i k j m = false ∧ mxP n i k j m = N3 := by
  have : mxK n i k j m = false := by unfold mxK; rw [h]; rfl
  exact ⟨this, by unfold mxP; rw [this]; rfl⟩
theorem mxP_no1 {n : Nat → P3} {i k j m : Int} (h0 : blK (n 0) (n 1) i k = true) (h : blK (n 3) (n 2) i k = false) : mxK n i k j m = false ∧ mxP n i k j m = N3 := by
  have : mxK n i k j m = false := by unfold mxK; rw [h, h0]; rfl
  exact ⟨this, by unfold mxP; rw [this]; rfl⟩
theorem mxP_yes {n : Nat → P3} {i k j m : Int} (h0 : blK (n 0) (n 1) i k = true) (h1 : blK (n 3) (n 2) i k = true) : mxK n i k j m = blK (blP (n 0) (n 1) i k) (blP (n 3) (n 2) i k) j m ∧ mxP n i k j m = blP (blP (n 0) (n 1) i k) (blP (n 3) (n 2) i k) j m := by
  have h : mxK n i k j m = blK (blP (n 0) (n 1) i k) (blP (n 3) (n 2) i k) j m := by unfold mxK; rw [h0, h1]; rfl
  refine ⟨h, ?_⟩
  unfold mxP
  rw [h]
  cases e : blK (blP (n 0) (n 1) i k) (blP (n 3) (n 2) i k) j m
  · exact (blP_no e).symm
  · rfl
set_option maxHeartbeats 2000000 in
theorem mix_any (n : Nat → P3) (i k j m : Int) (hi : -9223372036854775808 ≤ i ∧ i ≤ 9223372036854775807) (hk : -9223372036854775808 ≤ k ∧ k ≤ 9223372036854775807) (hj : -9223372036854775808 ≤ j ∧ j ≤ 9223372036854775807) (hm : -9223372036854775808 ≤ m ∧ m ≤ 9223372036854775807) :
    Gives Try.prog 14 #[.agg (ptsC 4 n), .int .i64 i, .int .i64 k, .int .i64 j, .int .i64 m] (.tuple #[.agg #[.int .i64 (mxP n i k j m).x, .int .i64 (mxP n i k j m).y, .int .i64 (mxP n i k j m).z], .bool (mxK n i k j m)]) := by
  have k1 := blend_any (n 0) (n 1) i k hi hk
  have k2 := blend_any (n 3) (n 2) i k hi hk
  have k3 := blend_any (blP (n 0) (n 1) i k) (blP (n 3) (n 2) i k) j m hj hm
  rw [ptsC4]
  cases h0 : blK (n 0) (n 1) i k
  · obtain ⟨e1, e2⟩ := mxP_no0 (n := n) (j := j) (m := m) h0
    rw [e1, e2]
    rw [h0] at k1
    generalize n 0 = a at *
    generalize n 1 = b at *
    generalize n 2 = c at *
    generalize n 3 = d at *
    generalize blP a b i k = r0 at *
    generalize blP d c i k = r1 at *
    generalize blK d c i k = b1 at *
    clear k3 h0 e1 e2
    cases b1
    all_goals
      refine Gives.mk fun w => ?_
      go_enter Try.func14, Try.ntmps14
      go_wp2_with (first | (go_at_call 12; first | ((with_reducible refine (k1.at_ _).mono ?_); rintro e w' ⟨rfl, xg, rfl⟩) | ((with_reducible refine (k2.at_ _).mono ?_); rintro e w' ⟨rfl, xg, rfl⟩)) | fail)
      refine bodyPost_ret (v := .tuple #[.agg #[.int .i64 N3.x, .int .i64 N3.y, .int .i64 N3.z], .bool false]) (by simp [results, Try.results14, go_sem, N3]) rfl ⟨rfl, (by repeat (first | exact Below.refl _ _ | refine bel_then ?_ _ | refine bel_grow ?_ _ | refine bel_alloc ?_ _ | refine bel_drew ?_ | refine bel_set ?_ (by simp) _ | refine bel_setRow ?_ (by first | omega | (simp; done) | (refine Nat.le_trans ?_ (top_le _ _); simp; done) | (refine Nat.le_succ_of_le (Nat.le_trans ?_ (top_le _ _)); simp; done) | (refine Nat.le_trans ?_ (top_le _ _); simp only [World.size_alloc]; refine Nat.le_succ_of_le (Nat.le_trans ?_ (top_le _ _)); simp; done)) _))⟩
  · rw [h0] at k1
    cases h1 : blK (n 3) (n 2) i k
    · obtain ⟨e1, e2⟩ := mxP_no1 (n := n) (j := j) (m := m) h0 h1
      rw [e1, e2]
      rw [h1] at k2
      generalize n 0 = a at *
      generalize n 1 = b at *
      generalize n 2 = c at *
      generalize n 3 = d at *
      generalize blP a b i k = r0 at *
      generalize blP d c i k = r1 at *
      clear k3 h0 h1 e1 e2
      refine Gives.mk fun w => ?_
      go_enter Try.func14, Try.ntmps14
      go_wp2_with (first | (go_at_call 12; first | ((with_reducible refine (k1.at_ _).mono ?_); rintro e w' ⟨rfl, xg, rfl⟩) | ((with_reducible refine (k2.at_ _).mono ?_); rintro e w' ⟨rfl, xg, rfl⟩)) | fail)
      refine bodyPost_ret (v := .tuple #[.agg #[.int .i64 N3.x, .int .i64 N3.y, .int .i64 N3.z], .bool false]) (by simp [results, Try.results14, go_sem, N3]) rfl ⟨rfl, (by repeat (first | exact Below.refl _ _ | refine bel_then ?_ _ | refine bel_grow ?_ _ | refine bel_alloc ?_ _ | refine bel_drew ?_ | refine bel_set ?_ (by simp) _ | refine bel_setRow ?_ (by first | omega | (simp; done) | (refine Nat.le_trans ?_ (top_le _ _); simp; done) | (refine Nat.le_succ_of_le (Nat.le_trans ?_ (top_le _ _)); simp; done) | (refine Nat.le_trans ?_ (top_le _ _); simp only [World.size_alloc]; refine Nat.le_succ_of_le (Nat.le_trans ?_ (top_le _ _)); simp; done)) _))⟩
    · obtain ⟨e1, e2⟩ := mxP_yes (n := n) (j := j) (m := m) h0 h1
      rw [e1, e2]
      rw [h1] at k2
      generalize n 0 = a at *
      generalize n 1 = b at *
      generalize n 2 = c at *
      generalize n 3 = d at *
      generalize blP a b i k = r0 at *
      generalize blP d c i k = r1 at *
      generalize blP r0 r1 j m = r2 at *
      generalize blK r0 r1 j m = b2 at *
      clear h0 h1 e1 e2
      refine Gives.mk fun w => ?_
      go_enter Try.func14, Try.ntmps14
      go_wp2_with (first | (go_at_call 12; first | ((with_reducible refine (k1.at_ _).mono ?_); rintro e w' ⟨rfl, xg, rfl⟩) | ((with_reducible refine (k2.at_ _).mono ?_); rintro e w' ⟨rfl, xg, rfl⟩) | ((with_reducible refine (k3.at_ _).mono ?_); rintro e w' ⟨rfl, xg, rfl⟩)) | fail)
      refine bodyPost_ret (v := .tuple #[.agg #[.int .i64 r2.x, .int .i64 r2.y, .int .i64 r2.z], .bool b2]) (by simp [results, Try.results14, go_sem, N3]) rfl ⟨rfl, (by repeat (first | exact Below.refl _ _ | refine bel_then ?_ _ | refine bel_grow ?_ _ | refine bel_alloc ?_ _ | refine bel_drew ?_ | refine bel_set ?_ (by simp) _ | refine bel_setRow ?_ (by first | omega | (simp; done) | (refine Nat.le_trans ?_ (top_le _ _); simp; done) | (refine Nat.le_succ_of_le (Nat.le_trans ?_ (top_le _ _)); simp; done) | (refine Nat.le_trans ?_ (top_le _ _); simp only [World.size_alloc]; refine Nat.le_succ_of_le (Nat.le_trans ?_ (top_le _ _)); simp; done)) _))⟩
end Go.Proofs.Yteigionfaodafaa
