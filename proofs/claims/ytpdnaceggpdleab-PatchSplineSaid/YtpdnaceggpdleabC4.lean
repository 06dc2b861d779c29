/- Contracts of vec's call Cut and the document's own. Rows of points, and contracts of Bound. Package topo: fan. Package topo: hubs. Package topo: walk. A class of worlds in which, beside, no draw is taken back: what the library's contract of SortFunc asks. -/
import Derived.Deep.LoopGhost
import Derived.RegionTactic
import Derived.BigRegion
import Derived.Deep.RegionHeld3
import Derived.OwnWalk
import Derived.Maps.AppendAt
import Derived.Test.YtpdnaceggpdleabC0
import Derived.Test.YtpdnaceggpdleabC1
import Derived.Test.YtpdnaceggpdleabC2
namespace Go.Proofs.Ytpdnaceggpdleab
open Go.RowKit
set_option linter.unusedVariables false
set_option linter.unusedSimpArgs false
/-- Halved toward 0 as often as wanted, k times at most. -/
def cut3 : Nat → Int → Int → Int → Int → Int × Int × Int
  | 0, _, x, y, z => (x, y, z)
  | k + 1, m, x, y, z => if wiB x y z m = true then (x, y, z) else cut3 k m (x.tdiv 2) (y.tdiv 2) (z.tdiv 2)
theorem cut3_end (k : Nat) (m x y z : Int) (h : wiB x y z m = true) : cut3 k m x y z = (x, y, z) := by
  cases k
  · rfl
  · unfold cut3; rw [if_pos h]
theorem cut3_on (k : Nat) (m x y z : Int) (h : wiB x y z m = false) : cut3 (k + 1) m x y z = cut3 k m (x.tdiv 2) (y.tdiv 2) (z.tdiv 2) := by
  rw [cut3, if_neg (by simp [h])]
theorem half_bd (k : Nat) (x : Int) (h0 : -(2 ^ (k + 1) : Nat) ≤ x) (h1 : x ≤ (2 ^ (k + 1) : Nat)) : -(2 ^ k : Nat) ≤ x.tdiv 2 ∧ x.tdiv 2 ≤ (2 ^ k : Nat) := by
  obtain ⟨q, r, e1, e2, e3, b1, b2, b3, b4, b5, b6⟩ := tq x 2 (by omega)
  rw [e1]
  have : 2 ^ (k + 1) = 2 ^ k * 2 := Nat.pow_succ ..
  omega
theorem half_in (x : Int) (h0 : -9223372036854775808 ≤ x) (h1 : x ≤ 9223372036854775807) : -9223372036854775808 ≤ x.tdiv 2 ∧ x.tdiv 2 ≤ 9223372036854775807 := by
  obtain ⟨q, r, e1, e2, e3, b1, b2, b3, b4, b5, b6⟩ := tq x 2 (by omega)
  rw [e1]
  rcases Int.le_total 0 x with h | h <;> omega
/-- What holds ahead of a round of which k more may follow at most. -/
def CutInv (m ax ay az : Int) (k : Nat) (x y z : Int) : Prop :=
  cut3 k m x y z = cut3 63 m ax ay az ∧ (-(2 ^ k : Nat) ≤ x ∧ x ≤ (2 ^ k : Nat)) ∧ (-(2 ^ k : Nat) ≤ y ∧ y ≤ (2 ^ k : Nat)) ∧ -(2 ^ k : Nat) ≤ z ∧ z ≤ (2 ^ k : Nat)
theorem cut_next {m ax ay az : Int} {k : Nat} {x y z : Int} (h : CutInv m ax ay az k x y z) (hm : 1 ≤ m) (hw : wiB x y z m = false) : ∃ j, k = j + 1 ∧ CutInv m ax ay az j (x.tdiv 2) (y.tdiv 2) (z.tdiv 2) := by
  obtain ⟨h1, h2, h3, h4⟩ := h
  cases k with
  | zero =>
    exfalso
    have : wiB x y z m = true := by rw [wiB_iff]; simp at h2 h3 h4; omega
    rw [this] at hw; cases hw
  | succ j =>
    refine ⟨j, rfl, ?_, half_bd j x h2.1 h2.2, half_bd j y h3.1 h3.2, half_bd j z h4.1 h4.2⟩
    rw [← h1, cut3_on _ _ _ _ _ hw]
theorem cut_last {m ax ay az : Int} {k : Nat} {x y z : Int} (h : CutInv m ax ay az k x y z) (hw : wiB x y z m = true) : cut3 63 m ax ay az = (x, y, z) := by
  rw [← h.1, cut3_end _ _ _ _ _ hw]
theorem cut_first (m ax ay az : Int) (a0 : -9223372036854775808 ≤ ax) (a1 : ax ≤ 9223372036854775807) (b0 : -9223372036854775808 ≤ ay) (b1 : ay ≤ 9223372036854775807) (c0 : -9223372036854775808 ≤ az) (c1 : az ≤ 9223372036854775807) :
    CutInv m ax ay az 63 ax ay az := by
  have e : ((2 ^ 63 : Nat) : Int) = 9223372036854775808 := by decide
  unfold CutInv
  rw [e]
  refine ⟨rfl, ?_, ?_, ?_⟩ <;> omega

set_option maxHeartbeats 1000000 in
theorem vCut_yes (ax ay az m : Int) (h : 1 ≤ m) (m1 : m ≤ 9223372036854775807) (a0 : -9223372036854775808 ≤ ax) (a1 : ax ≤ 9223372036854775807) (b0 : -9223372036854775808 ≤ ay) (b1 : ay ≤ 9223372036854775807) (c0 : -9223372036854775808 ≤ az) (c1 : az ≤ 9223372036854775807) :
    Gives Try.prog 33 #[.agg #[.int .i64 ax, .int .i64 ay, .int .i64 az], .int .i64 m] (.agg #[.int .i64 (cut3 63 m ax ay az).1, .int .i64 (cut3 63 m ax ay az).2.1, .int .i64 (cut3 63 m ax ay az).2.2]) := by
  refine Gives.mk fun w => ?_
  have first := cut_first m ax ay az a0 a1 b0 b1 c0 c1
  obtain ⟨R, hR⟩ : ∃ R, R = cut3 63 m ax ay az := ⟨_, rfl⟩
  rw [← hR]
  have hR := Lib.hid hR
  go_enter Try.func33, Try.ntmps33
  go_wp2_with fail
  go_loopg [8] 63 (fun k _ wr => ∃ x y z : Int, Hid (CutInv m ax ay az k x y z) ∧ (-9223372036854775808 ≤ x ∧ x ≤ 9223372036854775807) ∧ (-9223372036854775808 ≤ y ∧ y ≤ 9223372036854775807) ∧ (-9223372036854775808 ≤ z ∧ z ≤ 9223372036854775807) ∧ ∃ xx, wr = grow ((w.alloc (.cells #[.int .i64 x, .int .i64 y, .int .i64 z] 30)).alloc (.cells #[.int .i64 0, .int .i64 0, .int .i64 0] 30)) xx)
  case atStart => exact ⟨ax, ay, az, first, ⟨a0, a1⟩, ⟨b0, b1⟩, ⟨c0, c1⟩, grow_of (Below.refl _ _)⟩
  case round =>
    obtain ⟨x, y, z, hinv, hx, hy, hz, xx, rfl⟩ := hrel
    clear first
    have k := vWithin_any x y z m m1
    cases hw : wiB x y z m
    · obtain ⟨j, hj, next⟩ := cut_next hinv.out h hw
      rw [hw] at k
      have hw := Lib.hid hw
      have hj := Lib.hid hj
      have gx := half_in x hx.1 hx.2
      have gy := half_in y hy.1 hy.2
      have gz := half_in z hz.1 hz.2
      go_wp2_with (go_at_call 6; ((with_reducible refine (k.at_ _).mono ?_); rintro e w' ⟨rfl, xg, rfl⟩))
      go_roundg j
      case measure => rw [hj.out]; omega
      case rel => exact ⟨_, _, _, next, gx, gy, gz, grow_of (by repeat (first | exact Below.refl _ _ | refine bel_grow ?_ _ | refine bel_alloc ?_ _ | refine bel_set ?_ (by simp) _ | refine bel_setRow ?_ (by simp) _))⟩
    · have hl := cut_last hinv.out hw
      rw [← hR.out] at hl
      subst hl
      rw [hw] at k
      have hw := Lib.hid hw
      go_wp2_with (go_at_call 6; ((with_reducible refine (k.at_ _).mono ?_); rintro e w' ⟨rfl, xg, rfl⟩))
      refine bodyPost_ret (v := .agg #[.int .i64 x, .int .i64 y, .int .i64 z]) (by simp [results, Try.results33, go_sem]) rfl ⟨rfl, (by repeat (first | exact Below.refl _ _ | refine bel_grow ?_ _ | refine bel_alloc ?_ _ | refine bel_set ?_ (by simp) _ | refine bel_setRow ?_ (by simp) _))⟩

end Go.Proofs.Ytpdnaceggpdleab
namespace Go.Proofs.Ytpdnaceggpdleab
open Go.RowKit
set_option linter.unusedVariables false
set_option linter.unusedSimpArgs false
/-- A row of n points lies from an address on. -/
def VF (W : World) (A : Option Addr) (n : Nat) (p : Nat → Int × Int × Int) : Prop :=
  0 < n → ∃ b off, A = some ⟨b, off, none⟩ ∧ b < W.heap.size ∧ ∀ i, i < n → W.cell? ⟨b, off + i * 3, none⟩ = some (.int .i64 (p i).1) ∧ W.cell? ⟨b, off + i * 3 + 1, none⟩ = some (.int .i64 (p i).2.1) ∧ W.cell? ⟨b, off + i * 3 + 2, none⟩ = some (.int .i64 (p i).2.2)
theorem VF.below {W W' : World} {A : Option Addr} {n : Nat} {p : Nat → Int × Int × Int} (h : VF W A n p) (hb : Below W.heap.size W W') : VF W' A n p := fun hn => by
  obtain ⟨b, off, e, hl, hc⟩ := h hn
  refine ⟨b, off, e, Nat.lt_of_lt_of_le hl hb.size, fun i hi => ?_⟩
  obtain ⟨h1, h2, h3⟩ := hc i hi
  exact ⟨(hb.cell (p := ⟨b, _, none⟩) hl).trans h1, (hb.cell (p := ⟨b, _, none⟩) hl).trans h2, (hb.cell (p := ⟨b, _, none⟩) hl).trans h3⟩
end Go.Proofs.Ytpdnaceggpdleab
namespace Go.Proofs.Ytpdnaceggpdleab
open Go.RowKit
set_option linter.unusedVariables false
set_option linter.unusedSimpArgs false
set_option linter.unnecessarySimpa false
set_option maxRecDepth 100000


def lenS : Value → Nat
  | .slice _ n _ => n
  | _ => 0
def ints (l : List Int) : List Value := l.map (Value.int .i64)
theorem infoI : (Try.prog.info? 3).map (fun i => (i.zero, i.size, i.bytes)) = some (some (.int .i64 0), 1, 8) := by kernel_rfl
theorem own_form {W : World} {base : Nat} {e : TypeId} {size n : Nat} {v : Value} {xs : List Value} (h : W.ownsRow base e size v n xs) : ∃ A c, v = .slice A n c := by
  rcases h.2 with ⟨h1, h2⟩ | ⟨g, cap, cur, h1, _⟩
  · subst h2; exact ⟨none, 0, h1⟩
  · exact ⟨_, _, h1⟩
theorem own_lay {W W' : World} {base : Nat} {e : TypeId} {size n : Nat} {v : Value} {xs : List Value} (h : W.ownsRow base e size v n xs) (hb : Below W.heap.size W W') : W'.ownsRow base e size v n xs := by
  obtain ⟨h0, h | ⟨g, cap, cur, h1, h2, h3, h4⟩⟩ := h
  · exact ⟨h0, .inl h⟩
  · exact ⟨h0, .inr ⟨g, cap, cur, h1, h2, (hb.block g (Array.getElem?_eq_some_iff.1 h3).1).trans h3, h4⟩⟩
theorem own_base {W : World} {base base' : Nat} {e : TypeId} {size n : Nat} {v : Value} {xs : List Value} (h : W.ownsRow base e size v n xs) (hb : base' ≤ base) : W.ownsRow base' e size v n xs := by
  obtain ⟨h0, h | ⟨g, cap, cur, h1, h2, h3⟩⟩ := h
  · exact ⟨h0, .inl h⟩
  · exact ⟨h0, .inr ⟨g, cap, cur, h1, Nat.le_trans hb h2, h3⟩⟩
theorem own_block {W : World} {base : Nat} {e : TypeId} {size n : Nat} {v : Value} {xs : List Value} (h : W.ownsRow base e size v n xs) : ∀ k, v.ownBlock = some k → base ≤ k ∧ k < W.heap.size := by
  intro k hk
  rcases h.2 with ⟨rfl, _⟩ | ⟨g, cap, cur, rfl, h1, h2, _⟩
  · cases hk
  · cases hk; exact ⟨h1, (Array.getElem?_eq_some_iff.1 h2).1⟩
theorem bel_own {a W W' : World} {row : Option Nat} (h : Below a.heap.size a W) (hg : W.grownBy W' row) (hB : ∀ k, row = some k → a.heap.size ≤ k) : Below a.heap.size a W' :=
  h.trans ⟨hg.os, hg.tape, hg.output, hg.size, fun k hk => hg.block k (Nat.lt_of_lt_of_le hk h.size) (by intro e; have := hB k e.symm; omega)⟩
set_option maxHeartbeats 2000000 in
theorem fan_any (W : World) (B : Nat) (n : Int) (fs : List (List Int)) (ok : WalkOk n fs) (hM : GoM W B (waysL 0 fs)) (hi : ∀ w ∈ waysL 0 fs, i64B w.f ∧ i64B w.c) (v start : Int) (cnt : Nat) (hv : i64B v) (hs : i64B start) (hc : cnt < 1099511627776) (hlen : (waysL 0 fs).length < 1099511627776) :
    Calls Try.prog 47 #[.map (some B), .int .i64 v, .agg #[.int .i64 start, .int .i64 (cnt : Int)]] W fun e W' => ∃ L r val, FanR (waysL 0 fs) v start L r ∧ e = .returned (.tuple #[val, .bool r]) ∧ Below W.heap.size W W' ∧ W'.ownsRow W.heap.size 3 1 val L.length (ints (L.map Way.f)) := by
  obtain ⟨i0, hi0, hz0, hz1, hz2⟩ := info_parts infoI
  go_enter Try.func47, Try.ntmps47
  go_upto_region 2 with (first | ((refine wpList_make_own _ rfl _ _ 31 rfl (W.heap.size + 1) 3 i0 _ 1 Try.underlying31 hi0 hz0 hz1 .i64 .i64 (cnt : Int) cnt rfl rfl rfl (by rw [hz2]; omega) (by unfold maxLen; omega) (by simp) ?_); intro W1 own1 hg1) | fail)
  have hbox0 : Blk (W.alloc (.cells #[.int .i64 start, .int .i64 (cnt : Int)] 103)) W.heap.size 103 #[.int .i64 start, .int .i64 (cnt : Int)] := Blk.new _ _ _ _ rfl
  have hbel0 : Below W.heap.size W W1 := bel_own (bel_alloc (Below.refl _ _) _) hg1 (by intro k h; cases h)
  have hbox : Blk W1 W.heap.size 103 #[.int .i64 start, .int .i64 (cnt : Int)] := (hg1.block _ hbox0.lt (by simp)).trans hbox0
  clear hbox0
  have b0 : W1.cell? ⟨W.heap.size, 0, none⟩ = some (.int .i64 start) := hbox.cell 0
  go_wp2
  clear b0
  go_loopw [8, 9] (fun lv tv wr => ∃ L A c, FanC (waysL 0 fs) v start L ∧ (L = [] ∨ ends L start ≠ start) ∧ lv = .slice A L.length c ∧ tv = .int .i64 (ends L start) ∧ wr.ownsRow (W.heap.size + 1) 3 1 (.slice A L.length c) L.length (ints (L.map Way.f)) ∧ Below W.heap.size W wr ∧ Blk wr W.heap.size 103 #[.int .i64 start, .int .i64 (cnt : Int)]) (fun lv _ _ => (waysL 0 fs).length + 1 - lenS lv)
  case atStart => exact ⟨[], _, _, FanC.nil _ _ _, .inl rfl, rfl, rfl, by simpa [ints] using own1, hbel0, hbox⟩
  case round =>
    obtain ⟨L, A, c, hF, hne, rfl, rfl, hown, hbel, hbx⟩ := hrel
    clear hbox hbel0 own1 hg1
    have hMr : GoM wr B (waysL 0 fs) := hM.below hbel
    have hle := hF.le ok
    have hfl : (froms (waysL 0 fs) v).length ≤ (waysL 0 fs).length := List.length_filter_le _ _
    have hB := hM.lt
    have hsz := hbel.size
    have he : i64B (ends L start) := by
      unfold ends
      cases hl : L.getLast? with
      | none => exact hs
      | some x => exact (hi x (hF.mem x (List.mem_of_getLast? hl)).1).2
    replace hne := Lib.hid hne
    cases hlk : look (waysL 0 fs) v (ends L start) with
    | none =>
      go_wp2_with (first | (at_lookup; (refine wpL_look_go _ rfl _ _ rfl B _ rfl hMr v (ends L start) rfl hv he ?_)) | fail)
      go_ret2
      exact ⟨L, false, _, ⟨hF, fun h => (by cases h), fun _ => ⟨fun w hw ha hb => look_none hlk w hw ⟨ha, hb⟩, hne.out⟩⟩, rfl, by repeat (first | with_reducible exact Below.refl _ _ | with_reducible assumption | with_reducible refine bel_then ?_ _ | with_reducible refine bel_grow ?_ _ | with_reducible refine bel_alloc ?_ _ | with_reducible refine bel_drew ?_ | with_reducible refine bel_drewN ?_ _ | with_reducible refine bel_set ?_ (by simp) _ | with_reducible refine bel_setRow ?_ (by first | simp | (simp only [grow_size]; omega)) _), own_base (own_lay hown (by repeat (first | with_reducible exact Below.refl _ _ | with_reducible assumption | with_reducible refine bel_then ?_ _ | with_reducible refine bel_grow ?_ _ | with_reducible refine bel_alloc ?_ _ | with_reducible refine bel_drew ?_ | with_reducible refine bel_drewN ?_ _ | with_reducible refine bel_set ?_ (by simp) _ | with_reducible refine bel_setRow ?_ (by first | simp | (simp only [grow_size]; omega)) _))) (by omega)⟩
    | some w =>
      obtain ⟨hw, hwa, hwb⟩ := look_some hlk
      have hwi := hi w hw
      have hF2 := hF.snoc hw hwa hwb hne.out
      have hle2 := hF2.le ok
      simp only [List.length_append, List.length_singleton] at hle2
      go_upto_region 6 with (first | (at_lookup; (refine wpL_look_go _ rfl _ _ rfl B _ rfl hMr v (ends L start) rfl hv he ?_)) | fail)
      simp only [gF, gC, Option.map_some, Option.getD_some]
      have hbel2 := bel_alloc hbel (.cells #[.int .i64 w.f, .int .i64 w.c] 129)
      have hown2 := hown.alloc (.cells #[.int .i64 w.f, .int .i64 w.c] 129)
      have hbx2 := hbx.alloc (.cells #[.int .i64 w.f, .int .i64 w.c] 129)
      have hg2 : Blk (wr.alloc (.cells #[.int .i64 w.f, .int .i64 w.c] 129)) wr.heap.size 129 #[.int .i64 w.f, .int .i64 w.c] := Blk.new _ _ _ _ rfl
      generalize wr.alloc (.cells #[.int .i64 w.f, .int .i64 w.c] 129) = W2 at *
      have hG := hg2.lt
      have hbz := hbel2.size
      have hob0 := own_block hown
      generalize hGe : wr.heap.size = G at *
      clear hMr hbel hbx
      have c0 : W2.cell? ⟨G, 0, none⟩ = some (.int .i64 w.f) := hg2.cell 0
      have hne2 : (Value.slice A L.length c).ownBlock ≠ some G := fun e => by
        have := (own_block hown _ e).2
        omega
      have APP := (fun v' W3 (h1 : W3.ownsRow (W.heap.size + 1) 3 1 v' (L.length + 1) (ints (L.map Way.f) ++ [.int .i64 w.f])) (h2' : (W2.alloc (.cells #[.int .i64 w.f] 3)).grownBy W3 (Value.slice A L.length c).ownBlock) => (show Below W.heap.size W W3 ∧ Blk W3 W.heap.size 103 #[.int .i64 start, .int .i64 (cnt : Int)] ∧ W3.cell? ⟨G, 1, none⟩ = some (.int .i64 w.c) ∧ W3.cell? ⟨W.heap.size, 0, none⟩ = some (.int .i64 start) ∧ ∃ A' c', v' = .slice A' (L.length + 1) c' from by
        have h2 : W2.grownBy W3 (Value.slice A L.length c).ownBlock := (World.grownBy_alloc _ _ _).trans h2'
        have hob := own_block hown2
        have hB3 : Blk W3 W.heap.size 103 #[.int .i64 start, .int .i64 (cnt : Int)] := (h2.block _ (by omega) (fun e => by have := (hob _ e.symm).1; omega)).trans hbx2
        refine ⟨bel_own hbel2 h2 (fun k hk => by have := (hob k hk).1; omega), hB3, ?_, hB3.cell 0, own_form h1⟩
        have hgb : W3.heap[G]? = W2.heap[G]? := h2.block _ (by omega) (fun e => hne2 (e.symm))
        have := hg2.cell 1
        unfold World.cell? at this ⊢
        rw [hgb]
        exact this))
      by_cases hst : w.c = start
      · go_wp2_with (first | (at_builtin; (refine wpList_append_own _ rfl _ _ 31 rfl (W.heap.size + 1) 3 i0 _ 1 8 Try.underlying31 hi0 hz0 hz1 hz2 rfl (by decide) _ _ _ rfl (hown2.alloc _) ⟨W2.heap.size, 0, none⟩ 1 1 [.int .i64 w.f] rfl rfl (cell_one_new _ _ _) (fun x hx => by simp at hx; subst hx; rfl) (by unfold maxLen; omega) (by omega) (by simp; omega) ?_); intro v3 W3 hown3 hg3 hnil; obtain ⟨hbel3, hbx3, hc1, hc2, A3, c3, rfl⟩ := APP v3 W3 hown3 hg3; clear hg3 hnil) | fail)
        go_ret2
        refine ⟨L ++ [w], true, _, ⟨hF2, fun _ => ⟨by simp, by rw [ends_snoc]; exact hst⟩, fun h => (by cases h)⟩, rfl, by repeat (first | with_reducible exact Below.refl _ _ | with_reducible assumption | with_reducible refine bel_then ?_ _ | with_reducible refine bel_grow ?_ _ | with_reducible refine bel_alloc ?_ _ | with_reducible refine bel_drew ?_ | with_reducible refine bel_drewN ?_ _ | with_reducible refine bel_set ?_ (by simp) _ | with_reducible refine bel_setRow ?_ (by first | simp | (simp only [grow_size]; omega)) _), own_base (own_lay (by simpa [ints] using hown3) (by repeat (first | with_reducible exact Below.refl _ _ | with_reducible assumption | with_reducible refine bel_then ?_ _ | with_reducible refine bel_grow ?_ _ | with_reducible refine bel_alloc ?_ _ | with_reducible refine bel_drew ?_ | with_reducible refine bel_drewN ?_ _ | with_reducible refine bel_set ?_ (by simp) _ | with_reducible refine bel_setRow ?_ (by first | simp | (simp only [grow_size]; omega)) _))) (by omega)⟩
      · go_wp2_with (first | (at_builtin; (refine wpList_append_own _ rfl _ _ 31 rfl (W.heap.size + 1) 3 i0 _ 1 8 Try.underlying31 hi0 hz0 hz1 hz2 rfl (by decide) _ _ _ rfl (hown2.alloc _) ⟨W2.heap.size, 0, none⟩ 1 1 [.int .i64 w.f] rfl rfl (cell_one_new _ _ _) (fun x hx => by simp at hx; subst hx; rfl) (by unfold maxLen; omega) (by omega) (by simp; omega) ?_); intro v3 W3 hown3 hg3 hnil; obtain ⟨hbel3, hbx3, hc1, hc2, A3, c3, rfl⟩ := APP v3 W3 hown3 hg3; clear hg3 hnil) | fail)
        go_roundw
        case rel => exact ⟨L ++ [w], A3, c3, hF2, .inr (by rw [ends_snoc]; exact hst), by simp, by rw [ends_snoc], by simpa [ints] using hown3, by repeat (first | with_reducible exact Below.refl _ _ | with_reducible assumption | with_reducible refine bel_then ?_ _ | with_reducible refine bel_grow ?_ _ | with_reducible refine bel_alloc ?_ _ | with_reducible refine bel_drew ?_ | with_reducible refine bel_drewN ?_ _ | with_reducible refine bel_set ?_ (by simp) _ | with_reducible refine bel_setRow ?_ (by first | simp | (simp only [grow_size]; omega)) _), hbx3⟩
        case measure => simp [lenS]; omega
end Go.Proofs.Ytpdnaceggpdleab
namespace Go.Proofs.Ytpdnaceggpdleab
open Go.RowKit
set_option linter.unusedVariables false
set_option linter.unusedSimpArgs false
set_option linter.unnecessarySimpa false
set_option maxRecDepth 100000


/-- The cells of a row of hubs. -/
def hubCs (n : Nat) (h : Nat → Int × Nat) : Array Value := ((List.range (n * 2)).map fun j => if j % 2 = 0 then Value.int .i64 (h (j / 2)).1 else Value.int .i64 ((h (j / 2)).2 : Int)).toArray
theorem hubCs_size (n : Nat) (h : Nat → Int × Nat) : (hubCs n h).size = n * 2 := by simp [hubCs]
theorem hubCs_0 (n : Nat) (h : Nat → Int × Nat) (v : Nat) (hv : v < n) : (hubCs n h)[v * 2]? = some (.int .i64 (h v).1) := by
  unfold hubCs
  rw [List.getElem?_toArray, List.getElem?_map, List.getElem?_range (by omega)]
  simp
theorem hubCs_1 (n : Nat) (h : Nat → Int × Nat) (v : Nat) (hv : v < n) : (hubCs n h)[v * 2 + 1]? = some (.int .i64 ((h v).2 : Int)) := by
  unfold hubCs
  rw [List.getElem?_toArray, List.getElem?_map, List.getElem?_range (by omega)]
  have e1 : (v * 2 + 1) % 2 = 1 := by omega
  have e2 : (v * 2 + 1) / 2 = v := by omega
  simp [e1, e2]
theorem hubCs_made (n : Nat) : madeCells #[.int .i64 0, .int .i64 0] (n * 2) = hubCs n (fun _ => (0, 0)) := by
  apply Array.ext
  · simp [size_madeCells, hubCs_size]
  · intro i h1 h2
    have hi : i < n * 2 := by simpa [size_madeCells] using h1
    have : i % 2 = 0 ∨ i % 2 = 1 := by omega
    simp only [madeCells, hubCs, Array.getElem_map, Array.getElem_range, List.getElem_toArray, List.getElem_map, List.getElem_range]
    rcases this with e | e <;> simp [e]
theorem hubCs_set0 (n : Nat) (h : Nat → Int × Nat) (v : Nat) (hv : v < n) (x : Int) : (hubCs n h).setIfInBounds (v * 2) (.int .i64 x) = hubCs n (fun u => if u = v then (x, (h u).2) else h u) := by
  apply Array.ext
  · simp [hubCs_size]
  · intro i h1 h2
    have hi : i < n * 2 := by simpa [hubCs_size] using h1
    rw [Array.getElem_setIfInBounds (by simpa [hubCs_size] using hi)]
    have : i % 2 = 0 ∨ i % 2 = 1 := by omega
    split
    · rename_i e
      subst e
      simp [hubCs]
    · rename_i e
      simp only [hubCs, List.getElem_toArray, List.getElem_map, List.getElem_range]
      rcases this with e1 | e1
      · have : i / 2 ≠ v := by omega
        simp [e1, this]
      · by_cases e2 : i / 2 = v <;> simp [e1, e2]
theorem hubCs_set1 (n : Nat) (h : Nat → Int × Nat) (v : Nat) (hv : v < n) (x : Nat) : (hubCs n h).setIfInBounds (v * 2 + 1) (.int .i64 (x : Int)) = hubCs n (fun u => if u = v then ((h u).1, x) else h u) := by
  apply Array.ext
  · simp [hubCs_size]
  · intro i h1 h2
    have hi : i < n * 2 := by simpa [hubCs_size] using h1
    rw [Array.getElem_setIfInBounds (by simpa [hubCs_size] using hi)]
    have : i % 2 = 0 ∨ i % 2 = 1 := by omega
    split
    · rename_i e
      subst e
      have e1 : (v * 2 + 1) % 2 = 1 := by omega
      have e2 : (v * 2 + 1) / 2 = v := by omega
      simp [hubCs, e1, e2]
    · rename_i e
      simp only [hubCs, List.getElem_toArray, List.getElem_map, List.getElem_range]
      rcases this with e1 | e1
      · by_cases e2 : i / 2 = v <;> simp [e1, e2]
      · have : i / 2 ≠ v := by omega
        simp [e1, this]
theorem hubCs_both (n : Nat) (h : Nat → Int × Nat) (v : Nat) (hv : v < n) (x : Int) (y : Nat) : ((hubCs n h).setIfInBounds (v * 2) (.int .i64 x)).setIfInBounds (v * 2 + 1) (.int .i64 (y : Int)) = hubCs n (fun u => if u = v then (x, y) else h u) := by
  rw [hubCs_set0 n h v hv, hubCs_set1 n _ v hv]
  congr 1; funext u; by_cases e : u = v <;> simp [e]
theorem infoH : (Try.prog.info? 103).map (fun i => (i.zero, i.size, i.bytes)) = some (some (.agg #[.int .i64 0, .int .i64 0]), 2, 16) := by kernel_rfl


set_option maxHeartbeats 2000000 in
theorem hubs_any (W : World) (B N k : Nat) (fs : List (List Int)) (A : Option Addr) (ok : WalkOk (N : Int) fs) (hM : GoM W B (waysL 0 fs)) (hA : FL W A fs) (hi : ∀ w ∈ waysL 0 fs, i64B w.a ∧ i64B w.b) (hN : N < 1099511627776) (hlen : (waysL 0 fs).length < 1099511627776) (hfl : fs.length < 1099511627776) (hxl : ∀ x ∈ fs, x.length < 1099511627776) :
    Calls Try.prog 46 #[.map (some B), .int .i64 (N : Int), .slice A fs.length k] W fun e W' => ∃ g, e = .returned (.slice (some ⟨g, 0, none⟩) N N) ∧ Below W.heap.size W W' ∧ Blk W' g 103 (hubCs N fun v => hubOf (waysL 0 fs) (v : Int) (waysL 0 fs)) ∧ W.heap.size ≤ g := by
  obtain ⟨i0, hi0, hz0, hz1, hz2⟩ := info_parts infoH
  go_enter Try.func46, Try.ntmps46
  go_upto_region 2 with (first | ((refine wpList_make_full _ rfl _ _ 100 rfl W.heap.size 103 i0 _ 2 Try.underlying100 hi0 hz0 hz1 .i64 .i64 (N : Int) (N : Int) N rfl rfl rfl rfl (by rw [hz2]; omega) (by unfold maxLen; omega) (Nat.le_refl _) ?_); intro W1 own1 hg1) | fail)
  have hbx : Blk W1 W.heap.size 103 (hubCs N fun v => hubOf (waysL 0 fs) (v : Int) []) := by
    obtain ⟨_, h | ⟨g, cap, cur, h1, h2, h3, h4, h5, h6, h7⟩⟩ := own1
    · simp at h
    · simp only [Value.slice.injEq, Option.some.injEq, Addr.mk.injEq, and_true] at h1
      obtain ⟨rfl, rfl⟩ : W.heap.size = g ∧ N = cap := by
        refine ⟨h1.1, ?_⟩
        have := h1.2
        omega
      unfold Blk
      rw [h3]
      have e : cur = madeCells #[.int .i64 0, .int .i64 0] (N * 2) := by
        apply Array.ext'
        rw [List.take_of_length_le (by simp [h6])] at h7
        exact h7
      rw [e, hubCs_made]
      simp [hubOf_nil]
  have hbel0 : Below W.heap.size W W1 := bel_own (Below.refl _ _) hg1 (by intro k h; cases h)
  clear own1 hg1
  generalize hG : W.heap.size = G at *
  have hGl := hbx.lt
  clear hGl
  go_wp2
  go_loopw [18] (fun i wr => ∃ j : Nat, i = .int .i64 (j : Int) ∧ j ≤ fs.length ∧ Below W.heap.size W wr ∧ Blk wr G 103 (hubCs N fun v => hubOf (waysL 0 fs) (v : Int) (waysL 0 (fs.take j)))) (fun i _ => fs.length - (intOf i).toNat)
  case atStart => exact ⟨0, rfl, by omega, by rw [hG]; exact hbel0, by simpa [waysL] using hbx⟩
  case round =>
    obtain ⟨j, rfl, hj, hbel, hb⟩ := hrel
    clear hbx hbel0
    by_cases hlt : j < fs.length
    · obtain ⟨b, off, Bf, m, rfl, hbl, hcell, hIL⟩ := hA.at_ j hlt
      have hcr := (hbel.cell (p := ⟨b, off + j, none⟩) hbl).trans hcell
      have hbl2 : b < wr.heap.size := Nat.lt_of_lt_of_le hbl hbel.size
      have hILr := hIL.below hbel
      have hx3 := ok.long _ (List.getElem_mem hlt)
      have hxb := hxl _ (List.getElem_mem hlt)
      have hsp := waysL_split fs 0 j hlt
      have htk : waysL 0 (fs.take (j + 1)) = waysL 0 (fs.take j) ++ waysF (j : Int) fs[j] := by
        rw [List.take_succ_eq_append_getElem hlt, waysL_append]
        simp [waysL, Nat.min_eq_left (Nat.le_of_lt hlt)]
      have hap := ok.inr
      generalize hxe : fs[j] = x at *
      clear hcell
      obtain ⟨b2, off2, rfl, hb2, hc2⟩ := hILr.at_ (x.length - 1) (by omega)
      have n1 : ((x.length : Int) - 1) = ((x.length - 1 : Nat) : Int) := by omega
      have k0 : (0 : Int) ≤ (j : Int) := by omega
      have k1 : (j : Int) < (fs.length : Int) := by omega
      have hxl3 : (3 : Int) ≤ (x.length : Int) := by omega
      go_wp2
      have hgd : x[x.length - 1]'(by omega) = x.getD (x.length - 1) 0 := by rw [List.getD_eq_getElem?_getD, List.getElem?_eq_getElem (by omega)]; rfl
      generalize x[x.length - 1]'(by omega) = xl at *
      replace hgd := Lib.hid hgd
      go_loopw [10, 30] (fun av i wq => ∃ (q : Nat) (bi ai : Int) (pre : List Way), i = .int .i64 (q : Int) ∧ q ≤ x.length ∧ av = .int .i64 ai ∧ waysF (j : Int) x = pre ++ wayR (j : Int) bi ai (x.drop q) ∧ Below W.heap.size W wq ∧ Blk wq G 103 (hubCs N fun v => hubOf (waysL 0 fs) (v : Int) (waysL 0 (fs.take j) ++ pre))) (fun _ i _ => x.length - (intOf i).toNat)
      case atStart => exact ⟨0, x.getD (x.length - 2) 0, x.getD (x.length - 1) 0, [], rfl, by omega, by rw [hgd.out], rfl, hbel, by simpa using hb⟩
      case round =>
        obtain ⟨q, bi, ai, pre, rfl, hq, rfl, hpre, hbelq, hbq⟩ := hrel
        clear hb hcr hbl2 hILr
        by_cases hlq : q < x.length
        · obtain ⟨b9, o9, e9, hl9, hc9⟩ := hIL.at_ q hlq
          obtain ⟨rfl, rfl⟩ : b2 = b9 ∧ off2 = o9 := by simpa using e9
          have hcq := (hbelq.cell (p := ⟨b2, off2 + q, none⟩) hl9).trans hc9
          have hl9q : b2 < wr.heap.size := Nat.lt_of_lt_of_le hl9 hbelq.size
          rw [List.drop_eq_getElem_cons hlq, wayR] at hpre
          generalize hte : x[q] = tt at *
          have hwm : (⟨ai, tt, (j : Int), bi⟩ : Way) ∈ waysL 0 fs := by
            rw [hsp]
            simp only [Nat.zero_add, hpre]
            simp
          obtain ⟨d, hd⟩ := ok.prev hwm
          have hra := hap _ hd
          simp only at hra
          obtain ⟨av, rfl⟩ := Int.eq_ofNat_of_zero_le hra.1
          have hav : av < N := by omega
          have hia := (hi _ hwm).1
          have hib := (hi _ hwm).2
          simp only at hia hib
          have hsn := hubOf_snoc (waysL 0 fs) (waysL 0 (fs.take j) ++ pre) ⟨(av : Int), tt, (j : Int), bi⟩
          have hcnt : (hubOf (waysL 0 fs) (av : Int) (waysL 0 (fs.take j) ++ pre)).2 < 1099511627776 := by
            rw [hubOf_count]
            refine Nat.lt_of_le_of_lt (List.length_filter_le _ _) (Nat.lt_of_le_of_lt ?_ hlen)
            rw [hsp]
            simp only [Nat.zero_add, hpre, List.length_append]
            omega
          have hC0 := hbq.cell (av * 2)
          have hC1 := hbq.cell (av * 2 + 1)
          rw [hubCs_0 _ _ av hav] at hC0
          rw [hubCs_1 _ _ av hav] at hC1
          have hGl := hbq.lt
          have hF0 := hbq.frozen (av * 2)
          have hF1 := hbq.frozen (av * 2 + 1)
          have hMr : GoM wr B (waysL 0 fs) := hM.below hbelq
          have END : ∀ (W3 : World) (ti : Int), Below wr.heap.size wr W3 → ti = (hubStep (waysL 0 fs) (hubOf (waysL 0 fs) (av : Int) (waysL 0 (fs.take j) ++ pre)) ⟨(av : Int), tt, (j : Int), bi⟩).1 → Blk ((W3.setCell ⟨G, av * 2, none⟩ (.int .i64 ti)).setCell ⟨G, av * 2 + 1, none⟩ (.int .i64 (((hubOf (waysL 0 fs) (av : Int) (waysL 0 (fs.take j) ++ pre)).2 : Int) + 1))) G 103 (hubCs N fun v => hubOf (waysL 0 fs) (v : Int) (waysL 0 (fs.take j) ++ (pre ++ [⟨(av : Int), tt, (j : Int), bi⟩]))) := fun W3 ti hb3 hti => by
            have h1 := ((hbq.below hb3).set (av * 2) (.int .i64 ti)).set (av * 2 + 1) (.int .i64 (((hubOf (waysL 0 fs) (av : Int) (waysL 0 (fs.take j) ++ pre)).2 : Int) + 1))
            rw [show (((hubOf (waysL 0 fs) (av : Int) (waysL 0 (fs.take j) ++ pre)).2 : Int) + 1) = (((hubOf (waysL 0 fs) (av : Int) (waysL 0 (fs.take j) ++ pre)).2 + 1 : Nat) : Int) by omega] at h1 ⊢
            rw [hubCs_both _ _ av hav] at h1
            have e : (fun v : Nat => if v = av then (ti, (hubOf (waysL 0 fs) (av : Int) (waysL 0 (fs.take j) ++ pre)).2 + 1) else hubOf (waysL 0 fs) (v : Int) (waysL 0 (fs.take j) ++ pre)) = fun v : Nat => hubOf (waysL 0 fs) (v : Int) (waysL 0 (fs.take j) ++ (pre ++ [⟨(av : Int), tt, (j : Int), bi⟩])) := by
              funext v
              rw [← List.append_assoc, hsn]
              by_cases e : v = av
              · subst e; rw [if_pos rfl, if_pos rfl, hti]; rfl
              · rw [if_neg e, if_neg (by simp only; omega)]
            rw [← e]
            exact h1
          have END2 : ∀ (W3 : World), Below wr.heap.size wr W3 → (hubOf (waysL 0 fs) (av : Int) (waysL 0 (fs.take j) ++ pre)).1 = (hubStep (waysL 0 fs) (hubOf (waysL 0 fs) (av : Int) (waysL 0 (fs.take j) ++ pre)) ⟨(av : Int), tt, (j : Int), bi⟩).1 → Blk (W3.setCell ⟨G, av * 2 + 1, none⟩ (.int .i64 (((hubOf (waysL 0 fs) (av : Int) (waysL 0 (fs.take j) ++ pre)).2 : Int) + 1))) G 103 (hubCs N fun v => hubOf (waysL 0 fs) (v : Int) (waysL 0 (fs.take j) ++ (pre ++ [⟨(av : Int), tt, (j : Int), bi⟩]))) := fun W3 hb3 hti => by
            have h1 := (hbq.below hb3).set (av * 2 + 1) (.int .i64 (((hubOf (waysL 0 fs) (av : Int) (waysL 0 (fs.take j) ++ pre)).2 : Int) + 1))
            rw [show (((hubOf (waysL 0 fs) (av : Int) (waysL 0 (fs.take j) ++ pre)).2 : Int) + 1) = (((hubOf (waysL 0 fs) (av : Int) (waysL 0 (fs.take j) ++ pre)).2 + 1 : Nat) : Int) by omega] at h1 ⊢
            rw [hubCs_set1 _ _ av hav] at h1
            have e : (fun v : Nat => if v = av then ((hubOf (waysL 0 fs) (v : Int) (waysL 0 (fs.take j) ++ pre)).1, (hubOf (waysL 0 fs) (av : Int) (waysL 0 (fs.take j) ++ pre)).2 + 1) else hubOf (waysL 0 fs) (v : Int) (waysL 0 (fs.take j) ++ pre)) = fun v : Nat => hubOf (waysL 0 fs) (v : Int) (waysL 0 (fs.take j) ++ (pre ++ [⟨(av : Int), tt, (j : Int), bi⟩])) := by
              funext v
              rw [← List.append_assoc, hsn]
              by_cases e : v = av
              · subst e; rw [if_pos rfl, if_pos rfl, hti]; rfl
              · rw [if_neg e, if_neg (by simp only; omega)]
            rw [← e]
            exact h1
          replace END := Lib.hid END
          replace END2 := Lib.hid END2
          have hneg := faceOf_neg ok.long tt (av : Int)
          have hK := Lib.hid hbq
          clear hbq hd hsn
          generalize hubOf (waysL 0 fs) (av : Int) (waysL 0 (fs.take j) ++ pre) = ho at *
          obtain ⟨ht, hn⟩ := ho
          simp only at hC0 hC1 hcnt
          have hpre9 := Lib.hid (show waysF (j : Int) x = (pre ++ [⟨(av : Int), tt, (j : Int), bi⟩]) ++ wayR (j : Int) (av : Int) tt (x.drop (q + 1)) by rw [hpre]; simp)
          clear hpre hK
          have av0 : (0 : Int) ≤ (av : Int) := by omega
          have av1 : (av : Int) < (N : Int) := by omega
          have q0 : (0 : Int) ≤ (q : Int) := by omega
          have q1 : (q : Int) < (x.length : Int) := by omega
          have hGW : W.heap.size ≤ G := by omega
          have RND : ∀ (W3 : World), Below wr.heap.size wr W3 → Below W.heap.size W W3 := fun W3 h => hbelq.trans (h.mono hbelq.size)
          replace RND := Lib.hid RND
          by_cases e0 : hn = 0
          · subst e0
            have hE := Lib.hid (END.out wr tt (Below.refl _ _) (by simp [hubStep]))
            clear END END2
            go_wp2
            go_roundw
            case rel => exact ⟨q + 1, _, tt, pre ++ [⟨(av : Int), tt, (j : Int), bi⟩], by go_num, by omega, rfl, hpre9.out, bel_set (bel_set (RND.out wr (Below.refl _ _)) hGW _) hGW _, by simpa using hE.out⟩
            case measure => simp [intOf]; omega
          · have hface : faceOf (waysL 0 fs) tt (av : Int) = -1 ∨ faceOf (waysL 0 fs) tt (av : Int) ≠ -1 := by omega
            have hn0 : ((hn : Int) == 0) = false := by simp; omega
            rcases hface with hfa | hfa
            · have hlk := hneg.1 hfa
              have hti : tt = (hubStep (waysL 0 fs) (ht, hn) ⟨(av : Int), tt, (j : Int), bi⟩).1 := by simp [hubStep, hlk]
              replace hti := Lib.hid hti
              clear END2 hneg
              go_wp2_with (first | (go_at_call 64; (refine (face_any wr B _ hMr tt (av : Int) hib hia).mono ?_); rintro e W3 ⟨rfl, hb3⟩; have hE := Lib.hid (END.out W3 tt hb3 hti.out); have hb9 := Lib.hid (RND.out W3 hb3); have hG3 := Nat.lt_of_lt_of_le hGl hb3.size; have hF3 := (hb3.frozen (p := ⟨G, av * 2, none⟩) hGl).trans hF0; have hF4 := (hb3.frozen (p := ⟨G, av * 2 + 1, none⟩) hGl).trans hF1; have hC3 := (hb3.cell (p := ⟨G, av * 2, none⟩) hGl).trans hC0; have hC4 := (hb3.cell (p := ⟨G, av * 2 + 1, none⟩) hGl).trans hC1; rw [hfa]) | fail)
              go_roundw
              case rel => exact ⟨q + 1, _, tt, pre ++ [⟨(av : Int), tt, (j : Int), bi⟩], by go_num, by omega, rfl, hpre9.out, bel_set (bel_set hb9.out hGW _) hGW _, hE.out⟩
              case measure => simp [intOf]; omega
            · have hlk : look (waysL 0 fs) tt (av : Int) ≠ none := fun h => hfa (hneg.2 h)
              have hti : ht = (hubStep (waysL 0 fs) (ht, hn) ⟨(av : Int), tt, (j : Int), bi⟩).1 := by simp [hubStep, hlk, e0]
              replace hti := Lib.hid hti
              clear END hneg
              go_wp2_with (first | (go_at_call 64; (refine (face_any wr B _ hMr tt (av : Int) hib hia).mono ?_); rintro e W3 ⟨rfl, hb3⟩; have hE := Lib.hid (END2.out W3 hb3 hti.out); have hb9 := Lib.hid (RND.out W3 hb3); have hG3 := Nat.lt_of_lt_of_le hGl hb3.size; have hF4 := (hb3.frozen (p := ⟨G, av * 2 + 1, none⟩) hGl).trans hF1; have hC4 := (hb3.cell (p := ⟨G, av * 2 + 1, none⟩) hGl).trans hC1; have hfb : (faceOf (waysL 0 fs) tt (av : Int) == -1) = false := (by simpa using hfa); clear hfa; generalize faceOf (waysL 0 fs) tt (av : Int) = fa at *) | fail)
              go_roundw
              case rel => exact ⟨q + 1, _, tt, pre ++ [⟨(av : Int), tt, (j : Int), bi⟩], by go_num, by omega, rfl, hpre9.out, bel_set hb9.out hGW _, hE.out⟩
              case measure => simp [intOf]; omega
        · obtain rfl : q = x.length := by omega
          have hpre2 : waysF (j : Int) x = pre := by simpa [wayR] using hpre
          subst hpre2
          go_wp2
          go_roundw
          case rel => exact ⟨j + 1, by go_num, by omega, hbelq, by rw [htk]; exact hbq⟩
          case measure => simp [intOf]; omega
    · obtain rfl : j = fs.length := by omega
      go_wp2
      go_ret
      exact ⟨G, rfl, hbel, by simpa using hb, by omega⟩
end Go.Proofs.Ytpdnaceggpdleab
namespace Go.Proofs.Ytpdnaceggpdleab
open Go.RowKit
set_option linter.unusedVariables false
set_option linter.unusedSimpArgs false
set_option linter.unnecessarySimpa false
set_option maxRecDepth 100000


theorem wayR_f (f : Int) : ∀ (x : List Int) (b a : Int) (w : Way), w ∈ wayR f b a x → w.f = f
  | [], _, _, w, h => by simp [wayR] at h
  | t :: r, b, a, w, h => by
    rw [wayR] at h
    rcases List.mem_cons.1 h with rfl | h
    · rfl
    · exact wayR_f f r a t w h
theorem apart_add {P : List Way} {w : Way} (h : Apart P) (k : ∀ x ∈ P, apart x w) : Apart (P ++ [w]) := by
  unfold Apart
  rw [List.pairwise_append]
  exact ⟨h, List.pairwise_singleton _ _, fun x hx y hy => by rw [List.mem_singleton.1 hy]; exact k x hx⟩
theorem apart_fst {P Q : List Way} (h : Apart (P ++ Q)) : Apart P := (List.pairwise_append.1 h).1
theorem waysF_in {f : Int} {x : List Int} (hn : 2 ≤ x.length) {w : Way} (h : w ∈ waysF f x) : w.a ∈ x ∧ w.b ∈ x ∧ w.c ∈ x := by
  obtain ⟨i, hi, rfl⟩ := (mem_waysF hn).1 h
  have g : ∀ k, k < x.length → x.getD k 0 ∈ x := fun k hk => by
    rw [List.getD_eq_getElem?_getD, List.getElem?_eq_getElem hk]; exact List.getElem_mem hk
  exact ⟨g _ (Nat.mod_lt _ (by omega)), g _ hi, g _ (Nat.mod_lt _ (by omega))⟩
theorem wpL_len_la {ops : Array Oper} {rest : List Oper} {o : Oper} {a : Act} {Q : Exit → Act → World → Prop} (W : World) (hg : o.guard = none) (m : Operand) (hop : o.op = Op.call { callee := Callee.builtin Builtin.len, args := #[m], argTypes := #[127] }) (B : Nat) (P : List Way) (hm : a.eval m = .map (some B)) (h : LaM W B P)
    (hK : ∀ M : List Int, M.Nodup → (∀ v, v ∈ M ↔ ∃ x ∈ P, x.b = v) → wpList Try.prog ops Q rest (a.put o.dst (.int .i64 (M.length : Int))) W) : wpList Try.prog ops Q (o :: rest) a W := by
  obtain ⟨D, ho, hd⟩ := h
  obtain ⟨M, h1, h2, h3⟩ := hd.size
  refine wpList_len_own W hg m _ hop 3 3 Try.underlying127 (plainElem Try.prog 3) B P.length D hm ho ?_
  rw [h3]
  exact hK M h1 h2
theorem walk_count {V : Int} {fs : List (List Int)} (hL : Long fs) (hR : InR V (waysL 0 fs)) (hA : Apart (waysL 0 fs)) (M : List Int) (h1 : M.Nodup) (h2 : ∀ v, v ∈ M ↔ ∃ x ∈ waysL 0 fs, x.b = v) : (M.length : Int) = V ↔ WalkOk V fs := by
  have hsub : ∀ v ∈ M, v ∈ (List.range V.toNat).map Int.ofNat := fun v hv => by
    obtain ⟨x, hx, rfl⟩ := (h2 v).1 hv
    have := hR x hx
    rw [List.mem_map]
    exact ⟨x.b.toNat, by rw [List.mem_range]; omega, by simp; omega⟩
  have hn : ((List.range V.toNat).map Int.ofNat).Nodup := by
    rw [List.nodup_iff_pairwise_ne, List.pairwise_map]
    have := List.nodup_range (n := V.toNat)
    rw [List.nodup_iff_pairwise_ne] at this
    exact this.imp fun h e => h (by simp at e; omega)
  constructor
  · intro h
    refine ⟨hL, hR, hA, by omega, fun v h0 hv => ?_⟩
    have := nodup_all M _ h1 hsub (by simp; omega) v (by rw [List.mem_map]; exact ⟨v.toNat, by rw [List.mem_range]; omega, by simp; omega⟩)
    obtain ⟨x, hx, e⟩ := (h2 v).1 this
    exact ⟨x, hx, e⟩
  · intro h
    have e1 := nodup_le M _ h1 hsub
    have e2 := nodup_le _ M hn fun v hv => by
      obtain ⟨k, hk, rfl⟩ := List.mem_map.1 hv
      rw [List.mem_range] at hk
      exact (h2 _).2 (h.all _ (by simp) (by simp; omega))
    have := h.pos
    simp at e1 e2
    omega
set_option maxHeartbeats 4000000 in
theorem walk_any (W : World) (V : Int) (k : Nat) (fs : List (List Int)) (A : Option Addr) (hA : FL W A fs) (hV : i64B V) (hi : ∀ x ∈ fs, ∀ y ∈ x, i64B y) (hlen : (waysL 0 fs).length < 1099511627776) (hfl : fs.length < 1099511627776) (hxl : ∀ x ∈ fs, x.length < 1099511627776) :
    Calls Try.prog 45 #[.int .i64 V, .slice A fs.length k] W fun e W' => Below W.heap.size W W' ∧ ((¬ WalkOk V fs ∧ ∃ m, e = .returned (.tuple #[m, .bool false])) ∨ (WalkOk V fs ∧ ∃ B, e = .returned (.tuple #[.map (some B), .bool true]) ∧ GoM W' B (waysL 0 fs))) := by
  have hmm := @run_makeMap Try.prog
  go_enter Try.func45, Try.ntmps45
  go_wp2
  clear hmm
  have hGo0 : GoM ((W.alloc (.map #[] 0)).alloc (.map #[] 0)) W.heap.size [] := (GoM.made W).below (bel_alloc (Below.refl _ _) _)
  have hLa0 : LaM ((W.alloc (.map #[] 0)).alloc (.map #[] 0)) (W.heap.size + 1) [] := by simpa using LaM.made (W.alloc (.map #[] 0))
  have hb0 : Below W.heap.size W ((W.alloc (.map #[] 0)).alloc (.map #[] 0)) := bel_alloc (bel_alloc (Below.refl _ _) _) _
  go_loopw [22] (fun i wr => ∃ j : Nat, i = .int .i64 (j : Int) ∧ j ≤ fs.length ∧ Below W.heap.size W wr ∧ Long (fs.take j) ∧ InR V (waysL 0 (fs.take j)) ∧ Apart (waysL 0 (fs.take j)) ∧ GoM wr W.heap.size (waysL 0 (fs.take j)) ∧ LaM wr (W.heap.size + 1) (waysL 0 (fs.take j))) (fun i _ => fs.length - (intOf i).toNat)
  case atStart => exact ⟨0, rfl, by omega, hb0, by simp [Long], by simp [waysL, InR], by simp [waysL, Apart], by simpa [waysL] using hGo0, by simpa [waysL] using hLa0⟩
  case round =>
    obtain ⟨j, rfl, hj, hbel, hL, hR, hAp, hGo, hLa⟩ := hrel
    clear hGo0 hLa0 hb0
    by_cases hlt : j < fs.length
    · obtain ⟨b, off, Bf, m, rfl, hbl, hcell, hIL⟩ := hA.at_ j hlt
      have hcr := (hbel.cell (p := ⟨b, off + j, none⟩) hbl).trans hcell
      have hbl2 : b < wr.heap.size := Nat.lt_of_lt_of_le hbl hbel.size
      have hxb := hxl _ (List.getElem_mem hlt)
      have hxi := hi _ (List.getElem_mem hlt)
      have hsp := waysL_split fs 0 j hlt
      have htk : waysL 0 (fs.take (j + 1)) = waysL 0 (fs.take j) ++ waysF (j : Int) fs[j] := by
        rw [List.take_succ_eq_append_getElem hlt, waysL_append]
        simp [waysL, Nat.min_eq_left (Nat.le_of_lt hlt)]
      have hLtk : Long (fs.take (j + 1)) ↔ Long (fs.take j) ∧ 3 ≤ fs[j].length := by
        rw [List.take_succ_eq_append_getElem hlt]
        unfold Long
        simp only [List.mem_append, List.mem_singleton]
        constructor
        · intro h; exact ⟨fun x hx => h x (.inl hx), h _ (.inr rfl)⟩
        · rintro ⟨h1, h2⟩ x (hx | rfl)
          · exact h1 x hx
          · exact h2
      have hLong3 : WalkOk V fs → 3 ≤ fs[j].length := fun h => h.long _ (List.getElem_mem hlt)
      generalize hxe : fs[j] = x at *
      clear hcell
      have k0 : (0 : Int) ≤ (j : Int) := by omega
      have k1 : (j : Int) < (fs.length : Int) := by omega
      by_cases h3 : x.length < 3
      · have h3i : (x.length : Int) < 3 := by omega
        clear hGo hLa hIL
        go_wp2
        go_ret2
        exact ⟨hbel, .inl ⟨fun h => by have := hLong3 h; omega, _, rfl⟩⟩
      · have h3i : ¬ (x.length : Int) < 3 := by omega
        obtain ⟨b2, off2, rfl, hb2, hc2⟩ := (hIL.below hbel).at_ (x.length - 1) (by omega)
        obtain ⟨b3, off3, e3, hb3, hc3⟩ := (hIL.below hbel).at_ (x.length - 2) (by omega)
        obtain ⟨rfl, rfl⟩ : b2 = b3 ∧ off2 = off3 := by simpa using e3
        have n1 : ((x.length : Int) - 1) = ((x.length - 1 : Nat) : Int) := by omega
        have n2 : ((x.length : Int) - 2) = ((x.length - 2 : Nat) : Int) := by omega
        go_upto_region 8 with (fail)
        refine wp_region_grow (by kernel_rfl) (by kernel_rfl) ?_
        repeat (go_big_quiet_step ((fail)))
        refine wpQuiet_nil ?_
        rintro _ ⟨xg, rfl⟩
        have hGo1 := hGo.below (xg.kept _)
        have hLa1 := hLa.below (xg.kept _)
        have hbel1 := bel_grow hbel xg
        change GoM (grow wr xg) _ _ at hGo1
        change LaM (grow wr xg) _ _ at hLa1
        clear hGo hLa hbel hcr hbl2 hb2 hc2 hb3 hc3 e3
        generalize grow wr xg = W1 at *
        have hgd1 : x[x.length - 1]'(by omega) = x.getD (x.length - 1) 0 := by rw [List.getD_eq_getElem?_getD, List.getElem?_eq_getElem (by omega)]; rfl
        have hgd2 : x[x.length - 2]'(by omega) = x.getD (x.length - 2) 0 := by rw [List.getD_eq_getElem?_getD, List.getElem?_eq_getElem (by omega)]; rfl
        have hxm1 := hxi _ (List.getElem_mem (show x.length - 1 < x.length by omega))
        have hxm2 := hxi _ (List.getElem_mem (show x.length - 2 < x.length by omega))
        generalize x[x.length - 1]'(by omega) = x1 at *
        generalize x[x.length - 2]'(by omega) = x2 at *
        replace hgd1 := Lib.hid hgd1
        replace hgd2 := Lib.hid hgd2
        go_wp2
        go_loopw [10, 11, 44] (fun bv av i wq => ∃ (q : Nat) (bi ai : Int) (pre : List Way), i = .int .i64 (q : Int) ∧ q ≤ x.length ∧ bv = .int .i64 bi ∧ av = .int .i64 ai ∧ i64B ai ∧ waysF (j : Int) x = pre ++ wayR (j : Int) bi ai (x.drop q) ∧ Below W.heap.size W wq ∧ InR V (waysL 0 (fs.take j) ++ pre) ∧ Apart (waysL 0 (fs.take j) ++ pre) ∧ GoM wq W.heap.size (waysL 0 (fs.take j) ++ pre) ∧ LaM wq (W.heap.size + 1) (waysL 0 (fs.take j) ++ pre)) (fun _ _ i _ => x.length - (intOf i).toNat)
        case atStart => exact ⟨0, x2, x1, [], rfl, by omega, rfl, rfl, hxm1, by rw [hgd1.out, hgd2.out]; rfl, hbel1, by simpa using hR, by simpa using hAp, by simpa using hGo1, by simpa using hLa1⟩
        case round =>
          obtain ⟨q, bi, ai, pre, rfl, hq, rfl, rfl, hai, hpre, hbelq, hRq, hApq, hGo, hLa⟩ := hrel
          clear hGo1 hLa1 hbel1 hR hAp
          by_cases hlq : q < x.length
          · obtain ⟨b9, o9, e9, hl9, hc9⟩ := hIL.at_ q hlq
            obtain ⟨rfl, rfl⟩ : b2 = b9 ∧ off2 = o9 := by simpa using e9
            have hcq := (hbelq.cell (p := ⟨b2, off2 + q, none⟩) hl9).trans hc9
            have hl9q : b2 < wr.heap.size := Nat.lt_of_lt_of_le hl9 hbelq.size
            rw [List.drop_eq_getElem_cons hlq, wayR] at hpre
            have htt := hxi _ (List.getElem_mem hlq)
            generalize hte : x[q] = tt at *
            have hal : waysL 0 fs = (waysL 0 (fs.take j) ++ pre ++ [⟨ai, tt, (j : Int), bi⟩]) ++ (wayR (j : Int) ai tt (x.drop (q + 1)) ++ waysL (0 + j + 1) (fs.drop (j + 1))) := by
              rw [hsp]
              simp only [Nat.zero_add, hpre]
              simp
            have hPl : (waysL 0 (fs.take j) ++ pre).length < 9223372036854775807 := by
              rw [hal] at hlen
              simp only [List.length_append] at hlen ⊢
              omega
            have hle : ∀ y ∈ waysL 0 (fs.take j) ++ pre, y.b = tt → y.f ≤ (j : Int) := fun y hy _ => by
              have hm : y ∈ waysL 0 (fs.take (j + 1)) := by
                rw [htk, hpre]
                rcases List.mem_append.1 hy with hy | hy
                · exact List.mem_append_left _ hy
                · exact List.mem_append_right _ (List.mem_append_left _ hy)
              obtain ⟨jj, hjj, hmm2⟩ := (mem_waysL _ _ _).1 hm
              have hf := wayR_f _ _ _ _ _ hmm2
              have : jj < j + 1 := by simp only [List.length_take] at hjj; omega
              omega
            have hji : i64B (j : Int) := by unfold i64B; omega
            have BAD : (tt < 0 ∨ V ≤ tt ∨ (∃ y ∈ waysL 0 (fs.take j) ++ pre, y.b = tt ∧ y.f = (j : Int)) ∨ look (waysL 0 (fs.take j) ++ pre) ai tt ≠ none) → ¬ WalkOk V fs := by
              intro h ok
              have h1 := ok.inr
              have h2 := ok.apart
              rw [hal] at h1 h2
              have h3 := h1 ⟨ai, tt, (j : Int), bi⟩ (by simp)
              simp only at h3
              have h4 := List.pairwise_append.1 (apart_fst h2)
              rcases h with h | h | ⟨y, hy, h5, h6⟩ | h
              · omega
              · omega
              · exact (h4.2.2 y hy ⟨ai, tt, (j : Int), bi⟩ (by simp)).1 ⟨h5, h6⟩
              · cases hlk : look (waysL 0 (fs.take j) ++ pre) ai tt with
                | none => exact h hlk
                | some y =>
                  obtain ⟨hy, h5, h6⟩ := look_some hlk
                  exact (h4.2.2 y hy ⟨ai, tt, (j : Int), bi⟩ (by simp)).2 ⟨h5, h6⟩
            replace BAD := Lib.hid BAD
            have hpre9 := Lib.hid (show waysF (j : Int) x = (pre ++ [⟨ai, tt, (j : Int), bi⟩]) ++ wayR (j : Int) ai tt (x.drop (q + 1)) by rw [hpre]; simp)
            replace hsp := Lib.hid hsp
            replace htk := Lib.hid htk
            replace hal := Lib.hid hal
            replace hRq := Lib.hid hRq
            replace hApq := Lib.hid hApq
            clear hpre
            have q0 : (0 : Int) ≤ (q : Int) := by omega
            have q1 : (q : Int) < (x.length : Int) := by omega
            go_upto_region 14 with (first | (at_lookup; (refine wpL_look_la _ rfl _ _ rfl (W.heap.size + 1) _ rfl hLa tt rfl htt ?_); intro gg met hm1 hm2) | (at_lookup; (refine wpL_look_go _ rfl _ _ rfl W.heap.size _ rfl hGo ai tt rfl hai htt ?_)) | fail)
            have hGo2 := hGo.below (bel_alloc (Below.refl _ _) (.cells #[.int .i64 (gF (look (waysL 0 (fs.take j) ++ pre) ai tt)), .int .i64 (gC (look (waysL 0 (fs.take j) ++ pre) ai tt))] 129))
            have hLa2 := hLa.below (bel_alloc (Below.refl _ _) (.cells #[.int .i64 (gF (look (waysL 0 (fs.take j) ++ pre) ai tt)), .int .i64 (gC (look (waysL 0 (fs.take j) ++ pre) ai tt))] 129))
            have hb2 := bel_alloc hbelq (.cells #[.int .i64 (gF (look (waysL 0 (fs.take j) ++ pre) ai tt)), .int .i64 (gC (look (waysL 0 (fs.take j) ++ pre) ai tt))] 129)
            clear hGo hLa hbelq hcq hl9q hl9 hc9
            generalize wr.alloc (.cells #[.int .i64 (gF (look (waysL 0 (fs.take j) ++ pre) ai tt)), .int .i64 (gC (look (waysL 0 (fs.take j) ++ pre) ai tt))] 129) = W2 at *
            by_cases d1 : tt < 0
            · clear hGo2 hLa2
              go_wp2
              go_ret2
              exact ⟨hb2, .inl ⟨BAD.out (.inl d1), _, rfl⟩⟩
            · by_cases d2 : V ≤ tt
              · clear hGo2 hLa2
                go_wp2
                go_ret2
                exact ⟨hb2, .inl ⟨BAD.out (.inr (.inl d2)), _, rfl⟩⟩
              · by_cases d3 : met = true ∧ gg = (j : Int)
                · obtain ⟨rfl, rfl⟩ := d3
                  obtain ⟨y, hy, h5, h6, _⟩ := hm1 rfl
                  clear hGo2 hLa2
                  go_wp2
                  go_ret2
                  exact ⟨hb2, .inl ⟨BAD.out (.inr (.inr (.inl ⟨y, hy, h5, h6⟩))), _, rfl⟩⟩
                · have d3b : (met && (gg == (j : Int))) = false := by
                    cases met <;> simp_all
                  have hNF : ∀ y ∈ waysL 0 (fs.take j) ++ pre, ¬(y.b = tt ∧ y.f = (j : Int)) := fun y hy hh => by
                    cases met with
                    | false => exact hm2 rfl y hy hh.1
                    | true =>
                      obtain ⟨z, hz, h5, h6, h7⟩ := hm1 rfl
                      have h8 := h7 y hy hh.1
                      have h9 := hle z hz h5
                      exact d3 ⟨rfl, by omega⟩
                  cases hlk : look (waysL 0 (fs.take j) ++ pre) ai tt with
                  | some y9 =>
                    clear hGo2 hLa2
                    have hbd : look (waysL 0 (fs.take j) ++ pre) ai tt ≠ none := by rw [hlk]; simp
                    replace hbd := Lib.hid hbd
                    clear hm1 hm2 hNF
                    cases met with
                    | false =>
                      go_wp2
                      go_ret2
                      exact ⟨hb2, .inl ⟨BAD.out (.inr (.inr (.inr hbd.out))), _, rfl⟩⟩
                    | true =>
                      have d4 : (gg == (j : Int)) = false := by simpa using d3b
                      go_wp2
                      go_ret2
                      exact ⟨hb2, .inl ⟨BAD.out (.inr (.inr (.inr hbd.out))), _, rfl⟩⟩
                  | none =>
                    have hRn := Lib.hid (show InR V (waysL 0 (fs.take j) ++ (pre ++ [⟨ai, tt, (j : Int), bi⟩])) by
                      rw [← List.append_assoc]
                      intro y hy
                      rcases List.mem_append.1 hy with hy | hy
                      · exact hRq.out y hy
                      · rw [List.mem_singleton.1 hy]; exact ⟨by simp only; omega, by simp only; omega⟩)
                    have hAn := Lib.hid (show Apart (waysL 0 (fs.take j) ++ (pre ++ [⟨ai, tt, (j : Int), bi⟩])) by
                      rw [← List.append_assoc]
                      exact apart_add hApq.out fun y hy => ⟨hNF y hy, look_none hlk y hy⟩)
                    clear hm1 hm2 hNF BAD
                    cases met with
                    | false =>
                      go_wp2_with (first | (at_mapUpdate; (refine wpL_put_la _ rfl _ _ _ rfl (W.heap.size + 1) _ rfl hLa2 ⟨ai, tt, (j : Int), bi⟩ rfl rfl htt hji hle hPl ?_); intro W3 hLa3 hg3; have hGo3 := hGo2.kept hg3 (by simp); have hb3 := bel_turn hb2 hg3 (by omega); clear hLa2 hGo2 hg3 hb2) | (at_mapUpdate; (refine wpL_put_go _ rfl _ _ _ rfl W.heap.size _ rfl hGo3 ⟨ai, tt, (j : Int), bi⟩ rfl rfl hai htt hlk hPl ?_); intro W4 hGo4 hg4; have hLa4 := hLa3.kept hg4 (by simp); have hb4 := bel_turn hb3 hg4 (by omega); clear hLa3 hGo3 hg4 hb3) | fail)
                      go_roundw
                      case rel => exact ⟨q + 1, _, _, pre ++ [⟨ai, tt, (j : Int), bi⟩], by go_num, by omega, rfl, rfl, htt, hpre9.out, hb4, hRn.out, hAn.out, by rw [← List.append_assoc]; exact hGo4, by rw [← List.append_assoc]; exact hLa4⟩
                      case measure => simp [intOf]; omega
                    | true =>
                      have d4 : (gg == (j : Int)) = false := by simpa using d3b
                      go_wp2_with (first | (at_mapUpdate; (refine wpL_put_la _ rfl _ _ _ rfl (W.heap.size + 1) _ rfl hLa2 ⟨ai, tt, (j : Int), bi⟩ rfl rfl htt hji hle hPl ?_); intro W3 hLa3 hg3; have hGo3 := hGo2.kept hg3 (by simp); have hb3 := bel_turn hb2 hg3 (by omega); clear hLa2 hGo2 hg3 hb2) | (at_mapUpdate; (refine wpL_put_go _ rfl _ _ _ rfl W.heap.size _ rfl hGo3 ⟨ai, tt, (j : Int), bi⟩ rfl rfl hai htt hlk hPl ?_); intro W4 hGo4 hg4; have hLa4 := hLa3.kept hg4 (by simp); have hb4 := bel_turn hb3 hg4 (by omega); clear hLa3 hGo3 hg4 hb3) | fail)
                      go_roundw
                      case rel => exact ⟨q + 1, _, _, pre ++ [⟨ai, tt, (j : Int), bi⟩], by go_num, by omega, rfl, rfl, htt, hpre9.out, hb4, hRn.out, hAn.out, by rw [← List.append_assoc]; exact hGo4, by rw [← List.append_assoc]; exact hLa4⟩
                      case measure => simp [intOf]; omega
          · obtain rfl : q = x.length := by omega
            have hpre2 : waysF (j : Int) x = pre := by simpa [wayR] using hpre
            subst hpre2
            go_wp2
            go_roundw
            case rel => exact ⟨j + 1, by go_num, by omega, hbelq, hLtk.2 ⟨hL, by omega⟩, by rw [htk]; exact hRq, by rw [htk]; exact hApq, by rw [htk]; exact hGo, by rw [htk]; exact hLa⟩
            case measure => simp [intOf]; omega
    · obtain rfl : j = fs.length := by omega
      rw [List.take_length] at hL hR hAp hGo hLa
      go_upto_region 21 with (fail)
      go_wp2_with (first | (at_len; (refine wpL_len_la _ rfl _ rfl (W.heap.size + 1) _ rfl hLa ?_); intro M hM1 hM2) | fail)
      go_ret2
      have hiff := walk_count hL hR hAp M hM1 hM2
      refine ⟨hbel, ?_⟩
      by_cases hc : (M.length : Int) = V
      · exact .inr ⟨hiff.1 hc, W.heap.size, by (have e9 : ((M.length : Int) == V) = true := by simpa using hc); rw [e9]; rfl, hGo⟩
      · exact .inl ⟨fun h => hc (hiff.2 h), .map (some W.heap.size), by (have e9 : ((M.length : Int) == V) = false := by simpa using hc); rw [e9]; rfl⟩
end Go.Proofs.Ytpdnaceggpdleab
namespace Go.Proofs.Ytpdnaceggpdleab.D
open Go.RowKit
set_option linter.unusedVariables false
set_option linter.unusedSimpArgs false
variable {P : Program}
structure BelD (B : Nat) (w w' : World) : Prop where
  bel : Below B w w'
  drw : w.drawn ≤ w'.drawn
theorem BelD.refl (B : Nat) (w : World) : BelD B w w := ⟨Below.refl _ _, Nat.le_refl _⟩
theorem BelD.trans {B : Nat} {a b c : World} (h : BelD B a b) (k : BelD B b c) : BelD B a c := ⟨h.bel.trans k.bel, Nat.le_trans h.drw k.drw⟩
theorem BelD.mono {B B' : Nat} {a b : World} (h : BelD B a b) (hb : B' ≤ B) : BelD B' a b := ⟨h.bel.mono hb, h.drw⟩
theorem BelD.size {B : Nat} {a b : World} (h : BelD B a b) : a.heap.size ≤ b.heap.size := h.bel.size
theorem BelD.cell {B : Nat} {a b : World} (h : BelD B a b) {p : Addr} (hp : p.block < B) : b.cell? p = a.cell? p := h.bel.cell hp
theorem BelD.frozen {B : Nat} {a b : World} (h : BelD B a b) {p : Addr} (hp : p.block < B) : b.frozen? p = a.frozen? p := h.bel.frozen hp
theorem BelD.block {B : Nat} {a b : World} (h : BelD B a b) (k : Nat) (hk : k < B) : b.heap[k]? = a.heap[k]? := h.bel.block k hk
theorem bel_alloc {a w : World} (h : BelD a.heap.size a w) (o : Obj) : BelD a.heap.size a (w.alloc o) := ⟨Go.Proofs.Ytpdnaceggpdleab.bel_alloc h.bel o, h.drw⟩
theorem bel_trans {a w w' : World} (h : BelD a.heap.size a w) (k : BelD w.heap.size w w') : BelD a.heap.size a w' := h.trans (k.mono h.size)
theorem bel_set {a w : World} (h : BelD a.heap.size a w) {p : Addr} (hp : a.heap.size ≤ p.block) (u : Value) : BelD a.heap.size a (w.setCell p u) := ⟨Go.Proofs.Ytpdnaceggpdleab.bel_set h.bel hp u, h.drw⟩
theorem bel_drewN {a w : World} (h : BelD a.heap.size a w) (n : Nat) : BelD a.heap.size a (w.drewN n) := ⟨Go.Proofs.Ytpdnaceggpdleab.bel_drewN h.bel n, Nat.le_trans h.drw (Nat.le_add_right _ _)⟩
theorem bel_drew {a w : World} (h : BelD a.heap.size a w) : BelD a.heap.size a w.drew := ⟨Go.Proofs.Ytpdnaceggpdleab.bel_drew h.bel, Nat.le_trans h.drw (Nat.le_add_right _ _)⟩
/-- A step to a world in which all that was there is as it was. -/
structure More where
  «to» : World → World
  kept : ∀ w, BelD w.heap.size w («to» w)
instance more_some : Nonempty More := ⟨⟨fun w => w, fun w => BelD.refl _ _⟩⟩
def grow (w : World) (x : More) : World := x.to w
theorem bel_grow {a w : World} (h : BelD a.heap.size a w) (x : More) : BelD a.heap.size a (grow w x) := bel_trans h (x.kept w)
open Classical in
noncomputable def More.of (w w' : World) (h : BelD w.heap.size w w') : More := ⟨fun v => if v = w then w' else v, fun v => by
  by_cases e : v = w
  · rw [if_pos e, e]; exact h
  · rw [if_neg e]; exact BelD.refl _ _⟩
theorem grow_mk (w w' : World) (h : BelD w.heap.size w w') : grow w (More.of w w' h) = w' := by unfold grow More.of; simp
theorem grow_of {w w' : World} (h : BelD w.heap.size w w') : ∃ x, w' = grow w x := ⟨More.of w w' h, (grow_mk w w' h).symm⟩
def More.then (x y : More) : More := ⟨fun w => y.to (x.to w), fun w => bel_trans (x.kept w) (y.kept _)⟩
theorem bel_then {a w : World} {x : More} (h : BelD a.heap.size a (grow w x)) (y : More) : BelD a.heap.size a (grow w (x.then y)) := bel_grow h y
theorem grow_grow (w : World) (x y : More) : grow (grow w x) y = grow w (x.then y) := rfl
/-- What is behind the blocks that w had: of that nothing is said. -/
def More.top (x : More) (w : World) : Nat := (x.to w).heap.size
def More.cellAt (x : More) (w : World) (n i : Nat) : Option Value := (x.to w).cell? ⟨n, i, none⟩
def More.frozenAt (x : More) (w : World) (n i : Nat) : Bool := (x.to w).frozen? ⟨n, i, none⟩
theorem grow_cell (w : World) (x : More) (n i : Nat) : (grow w x).cell? ⟨n, i, none⟩ = if n < w.heap.size then w.cell? ⟨n, i, none⟩ else x.cellAt w n i := by
  split
  · rename_i h; exact (x.kept w).cell (p := ⟨n, i, none⟩) h
  · rfl
theorem grow_frozen (w : World) (x : More) (n i : Nat) : (grow w x).frozen? ⟨n, i, none⟩ = if n < w.heap.size then w.frozen? ⟨n, i, none⟩ else x.frozenAt w n i := by
  split
  · rename_i h; exact (x.kept w).frozen (p := ⟨n, i, none⟩) h
  · rfl
theorem grow_size (w : World) (x : More) : (grow w x).heap.size = x.top w := rfl
theorem top_le (w : World) (x : More) : w.heap.size ≤ x.top w := (x.kept w).size
theorem grow_lt (w : World) (x : More) (n : Nat) : (n < (grow w x).heap.size) = (n < w.heap.size ∨ n < x.top w) := by
  have h : w.heap.size ≤ (x.to w).heap.size := (x.kept w).size
  have e : (grow w x).heap.size = (x.to w).heap.size := rfl
  have e2 : x.top w = (x.to w).heap.size := rfl
  rw [e, e2]
  exact propext ⟨fun h => .inr h, fun h => by omega⟩
theorem grow_lt1 (w : World) (x : More) (n : Nat) : (n < (grow w x).heap.size + 1) = (n < w.heap.size ∨ n < x.top w + 1) := by
  have h : w.heap.size ≤ (x.to w).heap.size := (x.kept w).size
  have e : (grow w x).heap.size = (x.to w).heap.size := rfl
  have e2 : x.top w = (x.to w).heap.size := rfl
  rw [e, e2]
  exact propext ⟨fun h => .inr h, fun h => by omega⟩
theorem grow_lt2 (w : World) (x : More) (n : Nat) : (n < (grow w x).heap.size + 1 + 1) = (n < w.heap.size ∨ n < x.top w + 1 + 1) := by
  have h : w.heap.size ≤ (x.to w).heap.size := (x.kept w).size
  have e : (grow w x).heap.size = (x.to w).heap.size := rfl
  have e2 : x.top w = (x.to w).heap.size := rfl
  rw [e, e2]
  exact propext ⟨fun h => .inr h, fun h => by omega⟩
theorem grow_lt3 (w : World) (x : More) (n : Nat) : (n < (grow w x).heap.size + 1 + 1 + 1) = (n < w.heap.size ∨ n < x.top w + 1 + 1 + 1) := by
  have h : w.heap.size ≤ (x.to w).heap.size := (x.kept w).size
  have e : (grow w x).heap.size = (x.to w).heap.size := rfl
  have e2 : x.top w = (x.to w).heap.size := rfl
  rw [e, e2]
  exact propext ⟨fun h => .inr h, fun h => by omega⟩
theorem grow_lt4 (w : World) (x : More) (n : Nat) : (n < (grow w x).heap.size + 1 + 1 + 1 + 1) = (n < w.heap.size ∨ n < x.top w + 1 + 1 + 1 + 1) := by
  have h : w.heap.size ≤ (x.to w).heap.size := (x.kept w).size
  have e : (grow w x).heap.size = (x.to w).heap.size := rfl
  have e2 : x.top w = (x.to w).heap.size := rfl
  rw [e, e2]
  exact propext ⟨fun h => .inr h, fun h => by omega⟩
theorem grow_lt5 (w : World) (x : More) (n : Nat) : (n < (grow w x).heap.size + 1 + 1 + 1 + 1 + 1) = (n < w.heap.size ∨ n < x.top w + 1 + 1 + 1 + 1 + 1) := by
  have h : w.heap.size ≤ (x.to w).heap.size := (x.kept w).size
  have e : (grow w x).heap.size = (x.to w).heap.size := rfl
  have e2 : x.top w = (x.to w).heap.size := rfl
  rw [e, e2]
  exact propext ⟨fun h => .inr h, fun h => by omega⟩
theorem grow_lt6 (w : World) (x : More) (n : Nat) : (n < (grow w x).heap.size + 1 + 1 + 1 + 1 + 1 + 1) = (n < w.heap.size ∨ n < x.top w + 1 + 1 + 1 + 1 + 1 + 1) := by
  have h : w.heap.size ≤ (x.to w).heap.size := (x.kept w).size
  have e : (grow w x).heap.size = (x.to w).heap.size := rfl
  have e2 : x.top w = (x.to w).heap.size := rfl
  rw [e, e2]
  exact propext ⟨fun h => .inr h, fun h => by omega⟩
theorem grow_lt7 (w : World) (x : More) (n : Nat) : (n < (grow w x).heap.size + 1 + 1 + 1 + 1 + 1 + 1 + 1) = (n < w.heap.size ∨ n < x.top w + 1 + 1 + 1 + 1 + 1 + 1 + 1) := by
  have h : w.heap.size ≤ (x.to w).heap.size := (x.kept w).size
  have e : (grow w x).heap.size = (x.to w).heap.size := rfl
  have e2 : x.top w = (x.to w).heap.size := rfl
  rw [e, e2]
  exact propext ⟨fun h => .inr h, fun h => by omega⟩
theorem grow_lt8 (w : World) (x : More) (n : Nat) : (n < (grow w x).heap.size + 1 + 1 + 1 + 1 + 1 + 1 + 1 + 1) = (n < w.heap.size ∨ n < x.top w + 1 + 1 + 1 + 1 + 1 + 1 + 1 + 1) := by
  have h : w.heap.size ≤ (x.to w).heap.size := (x.kept w).size
  have e : (grow w x).heap.size = (x.to w).heap.size := rfl
  have e2 : x.top w = (x.to w).heap.size := rfl
  rw [e, e2]
  exact propext ⟨fun h => .inr h, fun h => by omega⟩
theorem grow_le (w : World) (x : More) (n : Nat) : (n ≤ (grow w x).heap.size) = (n ≤ w.heap.size ∨ n ≤ x.top w) := by
  have h : w.heap.size ≤ (x.to w).heap.size := (x.kept w).size
  have e : (grow w x).heap.size = (x.to w).heap.size := rfl
  have e2 : x.top w = (x.to w).heap.size := rfl
  rw [e, e2]
  exact propext ⟨fun h => .inr h, fun h => by omega⟩
theorem grow_self1 (w : World) (x : More) : ((grow w x).heap.size < x.top w + 1) = True := eq_true (Nat.lt_succ_self _)
theorem grow_self2 (w : World) (x : More) : ((grow w x).heap.size < x.top w + 1 + 1) = True := eq_true (Nat.lt_succ_of_lt (Nat.lt_succ_self _))
theorem grow_self3 (w : World) (x : More) : ((grow w x).heap.size < x.top w + 1 + 1 + 1) = True := eq_true (Nat.lt_succ_of_lt (Nat.lt_succ_of_lt (Nat.lt_succ_self _)))
/-- In every world the call answers v, and all that was there is as it was. -/
def Gives (P : Program) (f : FuncId) (args : Array Value) (v : Value) : Prop := ∀ w : World, Calls P f args w fun e w' => e = .returned v ∧ ∃ x, w' = grow w x
theorem Gives.at_ {f : FuncId} {args : Array Value} {v : Value} (h : Gives P f args v) (w : World) : Calls P f args w fun e w' => e = .returned v ∧ ∃ x, w' = grow w x := h w
theorem Gives.mk {f : FuncId} {args : Array Value} {v : Value} (h : ∀ w : World, Calls P f args w fun e w' => e = .returned v ∧ BelD w.heap.size w w') : Gives P f args v :=
  fun w => (h w).mono fun _ _ ⟨he, hb⟩ => ⟨he, grow_of hb⟩
theorem Gives.bel {f : FuncId} {args : Array Value} {v : Value} (h : Gives P f args v) (w : World) : Calls P f args w fun e w' => e = .returned v ∧ BelD w.heap.size w w' :=
  (h w).mono fun _ _ ⟨he, x, hx⟩ => ⟨he, hx ▸ x.kept w⟩
theorem Gives.quiet {f : FuncId} {args : Array Value} {v : Value} (h : Gives P f args v) {w : World} (x : More) :
    Calls P f args (grow w x) fun e w'' => e = .returned v ∧ ∃ y, w'' = grow w y :=
  (h (grow w x)).mono fun _ _ ⟨he, y, hy⟩ => ⟨he, x.then y, hy⟩
theorem Gives.quiet2 {f : FuncId} {args : Array Value} {v : Value} (h : Gives P f args v) {w : World} (x y : More) :
    Calls P f args (grow w (x.then y)) fun e w'' => e = .returned v ∧ ∃ z, w'' = grow w (x.then z) :=
  (h (grow w (x.then y))).mono fun _ _ ⟨he, z, hz⟩ => ⟨he, y.then z, hz⟩
/-- A region whose operations only read or are such calls: one walk in the order of the text. -/
theorem wp_region_grow {id : Nat} {Q : Exit → Act → World → Prop} {a : Act} {w : World} {l : List Oper} (hm : P.follows .mixedOrders = true) (hB : Region.lexB .any l.toArray = true)
    (h : wpQuiet P l.toArray (fun w' => ∃ x, w' = grow w x) (fun a' => ∀ w', (∃ x, w' = grow w x) → Q .normal a' w') l a) : (Code.region id l.toArray true).wp P Q a w :=
  wp_region_quiet (C := fun w' => ∃ x, w' = grow w x) hm hB (grow_of (bel_drew (BelD.refl _ _))) (by simpa using h)
attribute [go_sem] grow_self1 grow_self2 grow_self3
attribute [go_sem] grow_grow grow_cell grow_frozen grow_lt grow_le grow_lt1 grow_lt2 grow_lt3 grow_lt4 grow_lt5 grow_lt6 grow_lt7 grow_lt8
end Go.Proofs.Ytpdnaceggpdleab.D
