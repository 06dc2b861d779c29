/- Package topo: fan. -/
import Derived.Test.YtbehobojgeganaaTop1
import Derived.OwnWalk
import Derived.Maps.AppendAt
namespace Go.Proofs.Ytbehobojgeganaa
open Go.RowKit
set_option linter.unusedVariables false
set_option linter.unusedSimpArgs false
set_option linter.unnecessarySimpa false
set_option maxRecDepth 100000


def lenS : Value → Nat
  | .slice _ n _ => n
  | _ => 0
def ints (l : List Int) : List Value := l.map (Value.int .i64)
theorem ints_len (l : List Int) : (ints l).length = l.length := by simp [ints]
theorem infoI : (Try.prog.info? 3).map (fun i => (i.zero, i.size, i.bytes)) = some (some (.int .i64 0), 1, 8) := by kernel_rfl
theorem own_form {W : World} {base : Nat} {e : TypeId} {size n : Nat} {v : Value} {xs : List Value} (h : W.ownsRow base e size v n xs) : ∃ A c, v = .slice A n c := by
  rcases h.2 with ⟨h1, h2⟩ | ⟨g, cap, cur, h1, _⟩
  · subst h2; exact ⟨none, 0, h1⟩
  · exact ⟨_, _, h1⟩
theorem own_lay {W W' : World} {base : Nat} {e : TypeId} {size n : Nat} {v : Value} {xs : List Value} (h : W.ownsRow base e size v n xs) (hb : Below W.heap.size W W') : W'.ownsRow base e size v n xs := by
  obtain ⟨h0, h | ⟨g, cap, cur, h1, h2, h3, h4⟩⟩ := h
  · exact ⟨h0, .inl h⟩
  · exact ⟨h0, .inr ⟨g, cap, cur, h1, h2, (hb.block g (Array.getElem?_eq_some_iff.1 h3).1).trans h3, h4⟩⟩
theorem own_base {W : World} {base base' : Nat} {e : TypeId} {size n : Nat} {v : Value} {xs : List Value} (h : W.ownsRow base e size v n xs) (hb : base' ≤ base) : W.ownsRow base' e size v n xs := by
  obtain ⟨h0, h | ⟨g, cap, cur, h1, h2, h3⟩⟩ := h
  · exact ⟨h0, .inl h⟩
  · exact ⟨h0, .inr ⟨g, cap, cur, h1, Nat.le_trans hb h2, h3⟩⟩
theorem own_block {W : World} {base : Nat} {e : TypeId} {size n : Nat} {v : Value} {xs : List Value} (h : W.ownsRow base e size v n xs) : ∀ k, v.ownBlock = some k → base ≤ k ∧ k < W.heap.size := by
  intro k hk
  rcases h.2 with ⟨rfl, _⟩ | ⟨g, cap, cur, rfl, h1, h2, _⟩
  · cases hk
  · cases hk; exact ⟨h1, (Array.getElem?_eq_some_iff.1 h2).1⟩
theorem bel_own {a W W' : World} {row : Option Nat} (h : Below a.heap.size a W) (hg : W.grownBy W' row) (hB : ∀ k, row = some k → a.heap.size ≤ k) : Below a.heap.size a W' :=
  h.trans ⟨hg.os, hg.tape, hg.output, hg.size, fun k hk => hg.block k (Nat.lt_of_lt_of_le hk h.size) (by intro e; have := hB k e.symm; omega)⟩
/-- An appended row of numbers: its law, out of the library's. -/
def AppI : Prop := True
set_option maxHeartbeats 2000000 in
theorem fan_any (W : World) (B : Nat) (n : Int) (fs : List (List Int)) (ok : WalkOk n fs) (hM : GoM W B (waysL 0 fs)) (hi : ∀ w ∈ waysL 0 fs, i64B w.f ∧ i64B w.c) (v start : Int) (cnt : Nat) (hv : i64B v) (hs : i64B start) (hc : cnt < 1099511627776) (hlen : (waysL 0 fs).length < 1099511627776) :
    Calls Try.prog 42 #[.map (some B), .int .i64 v, .agg #[.int .i64 start, .int .i64 (cnt : Int)]] W fun e W' => ∃ L r val, FanR (waysL 0 fs) v start L r ∧ e = .returned (.tuple #[val, .bool r]) ∧ Below W.heap.size W W' ∧ W'.ownsRow W.heap.size 3 1 val L.length (ints (L.map Way.f)) := by
  obtain ⟨i0, hi0, hz0, hz1, hz2⟩ := info_parts infoI
  go_enter Try.func42, Try.ntmps42
  go_upto_region 2 with (first | ((refine wpList_make_own _ rfl _ _ 41 rfl (W.heap.size + 1) 3 i0 _ 1 Try.underlying41 hi0 hz0 hz1 .i64 .i64 (cnt : Int) cnt rfl rfl rfl (by rw [hz2]; omega) (by unfold maxLen; omega) (by simp) ?_); intro W1 own1 hg1) | fail)
  have hbox0 : Blk (W.alloc (.cells #[.int .i64 start, .int .i64 (cnt : Int)] 79)) W.heap.size 79 #[.int .i64 start, .int .i64 (cnt : Int)] := Blk.new _ _ _ _ rfl
  have hbel0 : Below W.heap.size W W1 := bel_own (bel_alloc (Below.refl _ _) _) hg1 (by intro k h; cases h)
  have hbox : Blk W1 W.heap.size 79 #[.int .i64 start, .int .i64 (cnt : Int)] := (hg1.block _ hbox0.lt (by simp)).trans hbox0
  clear hbox0
  have b0 : W1.cell? ⟨W.heap.size, 0, none⟩ = some (.int .i64 start) := hbox.cell 0
  go_wp2
  clear b0
  go_loopw [8, 9] (fun lv tv wr => ∃ L A c, FanC (waysL 0 fs) v start L ∧ (L = [] ∨ ends L start ≠ start) ∧ lv = .slice A L.length c ∧ tv = .int .i64 (ends L start) ∧ wr.ownsRow (W.heap.size + 1) 3 1 (.slice A L.length c) L.length (ints (L.map Way.f)) ∧ Below W.heap.size W wr ∧ Blk wr W.heap.size 79 #[.int .i64 start, .int .i64 (cnt : Int)]) (fun lv _ _ => (waysL 0 fs).length + 1 - lenS lv)
  case atStart => exact ⟨[], _, _, FanC.nil _ _ _, .inl rfl, rfl, rfl, by simpa [ints] using own1, hbel0, hbox⟩
  case round =>
    obtain ⟨L, A, c, hF, hne, rfl, rfl, hown, hbel, hbx⟩ := hrel
    clear hbox hbel0 own1 hg1
    have hMr : GoM wr B (waysL 0 fs) := hM.below hbel
    have hle := hF.le ok
    have hfl : (froms (waysL 0 fs) v).length ≤ (waysL 0 fs).length := List.length_filter_le _ _
    have hB := hM.lt
    have hsz := hbel.size
    have he : i64B (ends L start) := by
      unfold ends
      cases hl : L.getLast? with
      | none => exact hs
      | some x => exact (hi x (hF.mem x (List.mem_of_getLast? hl)).1).2
    replace hne := Lib.hid hne
    cases hlk : look (waysL 0 fs) v (ends L start) with
    | none =>
      go_wp2_with (first | (at_lookup; (refine wpL_look_go _ rfl _ _ rfl B _ rfl hMr v (ends L start) rfl hv he ?_)) | fail)
      go_ret2
      exact ⟨L, false, _, ⟨hF, fun h => (by cases h), fun _ => ⟨fun w hw ha hb => look_none hlk w hw ⟨ha, hb⟩, hne.out⟩⟩, rfl, by repeat (first | with_reducible exact Below.refl _ _ | with_reducible assumption | with_reducible refine bel_then ?_ _ | with_reducible refine bel_grow ?_ _ | with_reducible refine bel_alloc ?_ _ | with_reducible refine bel_drew ?_ | with_reducible refine bel_drewN ?_ _ | with_reducible refine bel_set ?_ (by simp) _ | with_reducible refine bel_setRow ?_ (by first | simp | (simp only [grow_size]; omega)) _), own_base (own_lay hown (by repeat (first | with_reducible exact Below.refl _ _ | with_reducible assumption | with_reducible refine bel_then ?_ _ | with_reducible refine bel_grow ?_ _ | with_reducible refine bel_alloc ?_ _ | with_reducible refine bel_drew ?_ | with_reducible refine bel_drewN ?_ _ | with_reducible refine bel_set ?_ (by simp) _ | with_reducible refine bel_setRow ?_ (by first | simp | (simp only [grow_size]; omega)) _))) (by omega)⟩
    | some w =>
      obtain ⟨hw, hwa, hwb⟩ := look_some hlk
      have hwi := hi w hw
      have hF2 := hF.snoc hw hwa hwb hne.out
      have hle2 := hF2.le ok
      simp only [List.length_append, List.length_singleton] at hle2
      go_upto_region 6 with (first | (at_lookup; (refine wpL_look_go _ rfl _ _ rfl B _ rfl hMr v (ends L start) rfl hv he ?_)) | fail)
      simp only [gF, gC, Option.map_some, Option.getD_some]
      have hbel2 := bel_alloc hbel (.cells #[.int .i64 w.f, .int .i64 w.c] 104)
      have hown2 := hown.alloc (.cells #[.int .i64 w.f, .int .i64 w.c] 104)
      have hbx2 := hbx.alloc (.cells #[.int .i64 w.f, .int .i64 w.c] 104)
      have hg2 : Blk (wr.alloc (.cells #[.int .i64 w.f, .int .i64 w.c] 104)) wr.heap.size 104 #[.int .i64 w.f, .int .i64 w.c] := Blk.new _ _ _ _ rfl
      generalize wr.alloc (.cells #[.int .i64 w.f, .int .i64 w.c] 104) = W2 at *
      have hG := hg2.lt
      have hbz := hbel2.size
      have hob0 := own_block hown
      generalize hGe : wr.heap.size = G at *
      clear hMr hbel hbx
      have c0 : W2.cell? ⟨G, 0, none⟩ = some (.int .i64 w.f) := hg2.cell 0
      have hne2 : (Value.slice A L.length c).ownBlock ≠ some G := fun e => by
        have := (own_block hown _ e).2
        omega
      have APP := (fun v' W3 (h1 : W3.ownsRow (W.heap.size + 1) 3 1 v' (L.length + 1) (ints (L.map Way.f) ++ [.int .i64 w.f])) (h2' : (W2.alloc (.cells #[.int .i64 w.f] 3)).grownBy W3 (Value.slice A L.length c).ownBlock) => (show Below W.heap.size W W3 ∧ Blk W3 W.heap.size 79 #[.int .i64 start, .int .i64 (cnt : Int)] ∧ W3.cell? ⟨G, 1, none⟩ = some (.int .i64 w.c) ∧ W3.cell? ⟨W.heap.size, 0, none⟩ = some (.int .i64 start) ∧ ∃ A' c', v' = .slice A' (L.length + 1) c' from by
        have h2 : W2.grownBy W3 (Value.slice A L.length c).ownBlock := (World.grownBy_alloc _ _ _).trans h2'
        have hob := own_block hown2
        have hB3 : Blk W3 W.heap.size 79 #[.int .i64 start, .int .i64 (cnt : Int)] := (h2.block _ (by omega) (fun e => by have := (hob _ e.symm).1; omega)).trans hbx2
        refine ⟨bel_own hbel2 h2 (fun k hk => by have := (hob k hk).1; omega), hB3, ?_, hB3.cell 0, own_form h1⟩
        have hgb : W3.heap[G]? = W2.heap[G]? := h2.block _ (by omega) (fun e => hne2 (e.symm))
        have := hg2.cell 1
        unfold World.cell? at this ⊢
        rw [hgb]
        exact this))
      by_cases hst : w.c = start
      · go_wp2_with (first | (at_builtin; (refine wpList_append_own _ rfl _ _ 41 rfl (W.heap.size + 1) 3 i0 _ 1 8 Try.underlying41 hi0 hz0 hz1 hz2 rfl (by decide) _ _ _ rfl (hown2.alloc _) ⟨W2.heap.size, 0, none⟩ 1 1 [.int .i64 w.f] rfl rfl (cell_one_new _ _ _) (fun x hx => by simp at hx; subst hx; rfl) (by unfold maxLen; omega) (by omega) (by simp; omega) ?_); intro v3 W3 hown3 hg3 hnil; obtain ⟨hbel3, hbx3, hc1, hc2, A3, c3, rfl⟩ := APP v3 W3 hown3 hg3; clear hg3 hnil) | fail)
        go_ret2
        refine ⟨L ++ [w], true, _, ⟨hF2, fun _ => ⟨by simp, by rw [ends_snoc]; exact hst⟩, fun h => (by cases h)⟩, rfl, by repeat (first | with_reducible exact Below.refl _ _ | with_reducible assumption | with_reducible refine bel_then ?_ _ | with_reducible refine bel_grow ?_ _ | with_reducible refine bel_alloc ?_ _ | with_reducible refine bel_drew ?_ | with_reducible refine bel_drewN ?_ _ | with_reducible refine bel_set ?_ (by simp) _ | with_reducible refine bel_setRow ?_ (by first | simp | (simp only [grow_size]; omega)) _), own_base (own_lay (by simpa [ints] using hown3) (by repeat (first | with_reducible exact Below.refl _ _ | with_reducible assumption | with_reducible refine bel_then ?_ _ | with_reducible refine bel_grow ?_ _ | with_reducible refine bel_alloc ?_ _ | with_reducible refine bel_drew ?_ | with_reducible refine bel_drewN ?_ _ | with_reducible refine bel_set ?_ (by simp) _ | with_reducible refine bel_setRow ?_ (by first | simp | (simp only [grow_size]; omega)) _))) (by omega)⟩
      · go_wp2_with (first | (at_builtin; (refine wpList_append_own _ rfl _ _ 41 rfl (W.heap.size + 1) 3 i0 _ 1 8 Try.underlying41 hi0 hz0 hz1 hz2 rfl (by decide) _ _ _ rfl (hown2.alloc _) ⟨W2.heap.size, 0, none⟩ 1 1 [.int .i64 w.f] rfl rfl (cell_one_new _ _ _) (fun x hx => by simp at hx; subst hx; rfl) (by unfold maxLen; omega) (by omega) (by simp; omega) ?_); intro v3 W3 hown3 hg3 hnil; obtain ⟨hbel3, hbx3, hc1, hc2, A3, c3, rfl⟩ := APP v3 W3 hown3 hg3; clear hg3 hnil) | fail)
        go_roundw
        case rel => exact ⟨L ++ [w], A3, c3, hF2, .inr (by rw [ends_snoc]; exact hst), by simp, by rw [ends_snoc], by simpa [ints] using hown3, by repeat (first | with_reducible exact Below.refl _ _ | with_reducible assumption | with_reducible refine bel_then ?_ _ | with_reducible refine bel_grow ?_ _ | with_reducible refine bel_alloc ?_ _ | with_reducible refine bel_drew ?_ | with_reducible refine bel_drewN ?_ _ | with_reducible refine bel_set ?_ (by simp) _ | with_reducible refine bel_setRow ?_ (by first | simp | (simp only [grow_size]; omega)) _), hbx3⟩
        case measure => simp [lenS]; omega
end Go.Proofs.Ytbehobojgeganaa