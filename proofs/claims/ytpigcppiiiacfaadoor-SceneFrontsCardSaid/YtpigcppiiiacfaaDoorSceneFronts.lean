/- SceneFronts holds for every input: the row, out of the walk; the card, tied. No condition but the row's own: the listed tables of the library read as the program's text lays them. -/
import Derived.Test.YtpigcppiiiacfaaDoorRows
import Derived.Test.YtpigcppiiiacfaaDoorCards
import Derived.Test.YtpigcppiiiacfaaDoorTie
import Derived.Test.YtpigcppiiiacfaaDoorTabsOf
import Derived.Test.YtpigcppiiiacfaaDoorMScnL
import Derived.Test.YtpigcppiiiacfaaDoorOpenS
import Derived.Test.YtpigcppiiiacfaaDoorPost
import Derived.LaidMore
import Derived.Lay
import Derived.SevenTiedAt
namespace Go.Proofs.YtpigcppiiiacfaaDoor.sceneFronts
open Go.ChangeShapes Go.WideShapes Go.ChangeAt Go.RowKit
set_option linter.unusedVariables false
set_option linter.unusedSimpArgs false
set_option linter.unnecessarySimpa false
def nlAt (k c : Nat) : Bool := c != 10
theorem nl_dec (s : ByteArray) (h : allAt nlAt s s.size = true) : ∀ c ∈ s.data.toList, c ≠ 10 := by
  rw [allAt_iff] at h
  intro c hc
  obtain ⟨k, hk, rfl⟩ := List.getElem_of_mem hc
  have hk' : k < s.size := by simpa using hk
  have h1 := h k hk'
  unfold nlAt bt at h1
  rw [dif_pos hk'] at h1
  intro h2
  have h3 : s[k] = 10 := h2
  rw [h3] at h1
  simp at h1
set_option maxRecDepth 100000 in
set_option maxHeartbeats 4000000 in
theorem walk (w : World) (s : ByteArray) (hs : s.size ≤ maxLen) (t : ByteArray) (hs' : t.size ≤ maxLen) (ht : Tabs w) : Calls Tryd.prog 4 #[.string s, .string t] w fun e w' => e = .returned (.bool true) ∧ Below w.heap.size w w' := by
  have cA := alive6_any w ht
  by_cases h1 : 5000 < s.size
  · have h' : (5000 : Int) < (s.size : Int) := by omega
    go_enter Tryd.func4, Tryd.ntmps4
    go_wp2_with (first | (go_at_call 8; (with_reducible refine Calls.mono cA ?_); rintro e w1 ⟨rfl, hb1⟩))
    go_ret
    exact ⟨rfl, (by repeat (first | with_reducible exact Below.refl _ _ | with_reducible assumption | with_reducible refine bel_then ?_ _ | with_reducible refine bel_grow ?_ _ | with_reducible refine bel_alloc ?_ _ | with_reducible refine bel_drew ?_))⟩
  by_cases h2 : 1000 < t.size
  · have h' : (1000 : Int) < (t.size : Int) := by omega
    have h'' : (s.size : Int) ≤ 5000 := by omega
    go_enter Tryd.func4, Tryd.ntmps4
    go_wp2_with (first | (go_at_call 8; (with_reducible refine Calls.mono cA ?_); rintro e w1 ⟨rfl, hb1⟩))
    go_ret
    exact ⟨rfl, (by repeat (first | with_reducible exact Below.refl _ _ | with_reducible assumption | with_reducible refine bel_then ?_ _ | with_reducible refine bel_grow ?_ _ | with_reducible refine bel_alloc ?_ _ | with_reducible refine bel_drew ?_))⟩
  have h' : (s.size : Int) ≤ 5000 := by omega
  have h'' : (t.size : Int) ≤ 1000 := by omega
  go_enter Tryd.func4, Tryd.ntmps4
  go_wp2_with (first | (go_at_call 8; (with_reducible refine Calls.mono cA ?_); rintro e w1 ⟨rfl, hb1⟩))
  have ht1 := ht.below hb1
  replace hb1 := Lib.hid hb1
  go_loop [5] (fun i => ∃ k : Nat, k ≤ t.size ∧ i = .int .i64 (k : Int) ∧ Hid (allAt nlAt t k = true)) (fun i => t.size - (intOf i).toNat)
  case atStart => exact ⟨0, Nat.zero_le _, rfl, Lib.hid rfl⟩
  case round =>
    obtain ⟨k, hk, rfl, hall⟩ := hrel
    by_cases hlt : k < t.size
    · have e := bt_at t k hlt
      have lt := bt_lt t k
      have ON := Lib.hid (show ∀ q, nlAt k (bt t k) = q → allAt nlAt t (k + 1) = q from fun q hq => by unfold allAt; rw [hall.out, hq]; rfl)
      by_cases c10 : bt t k = 10
      · rw [c10] at e
        go_wp2
        go_ret
        exact ⟨rfl, hb1.out⟩
      · have n10 : ((bt t k : Int) == 10) = false := by simp; omega
        replace ON := Lib.hid (ON.out true (by unfold nlAt; simpa using c10))
        generalize bt t k = c at *
        go_wp2
        go_round
        case rel => exact ⟨k + 1, by omega, by go_num, Lib.hid ON.out⟩
        case measure => simp [intOf] <;> omega
    · obtain rfl : k = t.size := by omega
      have hpl := nl_dec t hall.out
      obtain ⟨n, k, m, f, c1, c2, H⟩ := fronts_calls s t (by omega) (by omega) hpl
      replace c1 := Lib.hid c1
      replace c2 := Lib.hid c2
      replace H := Lib.hid H
      clear hall hpl
      go_upto_region 11 with (first | (go_at_call 9; (with_reducible refine Calls.mono (c1.out _ ht1) ?_); rintro e W1 ⟨cs, x, rfl, hb2, hz, ho, hx, hxp⟩) | (refine wpList_val rfl _ _ (alloc_Scene _ _ rfl _) ?_) | (refine wpList_store_rowTo rfl 35 _ _ rfl rfl W1.heap.size cs rfl rfl 35 scZ (Blk.new _ _ _ _ rfl) (by rw [hz]; exact infoSc) (by rw [hz]; rfl) ho ?_))
      have hW2 : Below W1.heap.size W1 (W1.alloc (.cells cs 35)) := bel_alloc (Below.refl _ _) _
      have KB : Blk (W1.alloc (.cells cs 35)) W1.heap.size 35 cs := Blk.new _ _ _ _ rfl
      generalize W1.alloc (.cells cs 35) = W2 at *
      have h02 : Below w.heap.size w W2 := hb1.out.trans ((hb2.trans (hW2.mono hb2.size)).mono hb1.out.size)
      have ht2 := ht1.below (hb2.trans (hW2.mono hb2.size))
      go_upto_region 12 with (first | (go_at_call 9; (with_reducible refine Calls.mono (c2.out _ ht2) ?_); rintro e W3 ⟨cs2, x2, rfl, hb3, hz2, ho2, hx2, hxp2⟩) | (refine wpList_val rfl _ _ (alloc_Scene _ _ rfl _) ?_) | (refine wpList_store_rowTo rfl 35 _ _ rfl rfl W3.heap.size cs2 rfl rfl 35 scZ (Blk.new _ _ _ _ rfl) (by rw [hz2]; exact infoSc) (by rw [hz2]; rfl) ho2 ?_))
      have hW4 : Below W3.heap.size W3 (W3.alloc (.cells cs2 35)) := bel_alloc (Below.refl _ _) _
      generalize W3.alloc (.cells cs2 35) = W4 at *
      have h24 : Below W2.heap.size W2 W4 := hb3.trans (hW4.mono hb3.size)
      have h04 := Lib.hid (h02.trans (h24.mono h02.size))
      have d12 : W4.cell? ⟨W1.heap.size, 12, none⟩ = some (.int .i64 x) := by rw [(KB.below h24).cell 12]; exact hx
      replace H := H.out
      clear h24 hW4 hx2 hxp2 ho2 hz2 hb3 ht2 h02 KB hW2 hx ho hz hb2 c1 c2 ht1 hb1 cA
      unfold frontsP at H
      rcases H with ⟨hk, hn, ⟨rfl, rfl⟩ | rfl⟩ | ⟨rfl, rfl, hf, H⟩ | ⟨rfl, rfl, rfl⟩ | ⟨rfl, rfl, hf, rfl⟩ | ⟨rfl, rfl, rfl⟩
      · have e1 : (f == 0) = false := by simp; omega
        have e2 : (m == 0) = false := by simp; omega
        by_cases q : f = 15
        · subst q
          go_wp2
          go_ret
          exact ⟨by simp, h04.out⟩
        · have e3 : (f == 15) = false := by simp; omega
          go_wp2
          go_ret
          exact ⟨by simp, h04.out⟩
      · have e1 : (k == 0) = false := by simp; omega
        have e2 : (n == 0) = false := by simp; omega
        by_cases q : k = 15
        · subst q
          go_wp2
          go_ret
          exact ⟨by simp, h04.out⟩
        · have e3 : (k == 15) = false := by simp; omega
          by_cases q2 : k = 10
          · subst q2
            by_cases q3 : m = n
            · subst q3
              go_wp2
              go_ret
              exact ⟨by simp, h04.out⟩
            · have e4 : (m == n) = false := by simp; omega
              go_wp2
              go_ret
              exact ⟨by simp, h04.out⟩
          · have e4 : ((10 : Int) == k) = false := by simp; omega
            go_wp2
            go_ret
            exact ⟨by simp, h04.out⟩
      · have e1 : (f == 0) = false := by simp; omega
        replace H := Lib.hid H
        go_wp2
        go_loop [12, 13] (fun d i => ∃ k : Nat, k ≤ s.size ∧ i = .int .i64 (k : Int) ∧ d = .int .i64 (((ends ((nb s.data.toList).take k) + 2 : Nat) : Int))) (fun _ i => s.size - (intOf i).toNat)
        case atStart => exact ⟨0, Nat.zero_le _, rfl, rfl⟩
        case round =>
          obtain ⟨k, hk, rfl, rfl⟩ := hrel
          by_cases hlt : k < s.size
          · have e := bt_at s k hlt
            have lt := bt_lt s k
            have ES := ends_step s k hlt
            have EL := ends_le ((nb s.data.toList).take k)
            have TL : ((nb s.data.toList).take k).length ≤ k := by simp; omega
            by_cases c10 : bt s k = 10
            · rw [c10] at e ES
              rw [if_pos rfl] at ES
              generalize ends ((nb s.data.toList).take k) = E at *
              have ES := Lib.hid ES
              go_wp2
              go_round
              case rel => exact ⟨k + 1, by omega, by go_num, congrArg (Value.int .i64) (by have := ES.out; omega)⟩
              case measure => simp [intOf] <;> omega
            · have n10 : ((bt s k : Int) == 10) = false := by simp; omega
              rw [if_neg c10] at ES
              generalize ends ((nb s.data.toList).take k) = E at *
              generalize bt s k = c at *
              have ES := Lib.hid ES
              go_wp2
              go_round
              case rel => exact ⟨k + 1, by omega, by go_num, congrArg (Value.int .i64) (by have := ES.out; omega)⟩
              case measure => simp [intOf] <;> omega
          · obtain rfl : k = s.size := by omega
            have hD : ends ((nb s.data.toList).take s.size) = ends (nb s.data.toList) := by rw [List.take_of_length_le (by unfold nb; simp)]
            have hE := ends_le (nb s.data.toList)
            have hEl : (nb s.data.toList).length = s.size := by unfold nb; simp
            rw [hD]
            generalize ends (nb s.data.toList) = E at *
            have H := H.out
            rcases H with rfl | ⟨rfl, rfl⟩
            · go_wp2
              go_ret
              exact ⟨by simp, h04.out⟩
            · have e5 : ((0 : Int) == ((E + 2 : Nat) : Int)) = false := by simp; omega
              go_wp2
              go_ret
              exact ⟨by simp, h04.out⟩
      · skip
        go_wp2
        go_loop [12, 13] (fun d i => ∃ k : Nat, k ≤ s.size ∧ i = .int .i64 (k : Int) ∧ d = .int .i64 (((ends ((nb s.data.toList).take k) + 2 : Nat) : Int))) (fun _ i => s.size - (intOf i).toNat)
        case atStart => exact ⟨0, Nat.zero_le _, rfl, rfl⟩
        case round =>
          obtain ⟨k, hk, rfl, rfl⟩ := hrel
          by_cases hlt : k < s.size
          · have e := bt_at s k hlt
            have lt := bt_lt s k
            have ES := ends_step s k hlt
            have EL := ends_le ((nb s.data.toList).take k)
            have TL : ((nb s.data.toList).take k).length ≤ k := by simp; omega
            by_cases c10 : bt s k = 10
            · rw [c10] at e ES
              rw [if_pos rfl] at ES
              generalize ends ((nb s.data.toList).take k) = E at *
              have ES := Lib.hid ES
              go_wp2
              go_round
              case rel => exact ⟨k + 1, by omega, by go_num, congrArg (Value.int .i64) (by have := ES.out; omega)⟩
              case measure => simp [intOf] <;> omega
            · have n10 : ((bt s k : Int) == 10) = false := by simp; omega
              rw [if_neg c10] at ES
              generalize ends ((nb s.data.toList).take k) = E at *
              generalize bt s k = c at *
              have ES := Lib.hid ES
              go_wp2
              go_round
              case rel => exact ⟨k + 1, by omega, by go_num, congrArg (Value.int .i64) (by have := ES.out; omega)⟩
              case measure => simp [intOf] <;> omega
          · obtain rfl : k = s.size := by omega
            have hD : ends ((nb s.data.toList).take s.size) = ends (nb s.data.toList) := by rw [List.take_of_length_le (by unfold nb; simp)]
            have hE := ends_le (nb s.data.toList)
            have hEl : (nb s.data.toList).length = s.size := by unfold nb; simp
            rw [hD]
            generalize ends (nb s.data.toList) = E at *
            go_wp2
            go_ret
            exact ⟨by simp, h04.out⟩
      · have e1 : (f == 0) = false := by simp; omega
        obtain ⟨no, hno⟩ : ∃ no : Nat, no = ends (nb s.data.toList) + 2 := ⟨_, rfl⟩
        rw [← hno]
        replace hno := Lib.hid hno
        go_wp2
        go_loop [12, 13] (fun d i => ∃ k : Nat, k ≤ s.size ∧ i = .int .i64 (k : Int) ∧ d = .int .i64 (((ends ((nb s.data.toList).take k) + 2 : Nat) : Int))) (fun _ i => s.size - (intOf i).toNat)
        case atStart => exact ⟨0, Nat.zero_le _, rfl, rfl⟩
        case round =>
          obtain ⟨k, hk, rfl, rfl⟩ := hrel
          by_cases hlt : k < s.size
          · have e := bt_at s k hlt
            have lt := bt_lt s k
            have ES := ends_step s k hlt
            have EL := ends_le ((nb s.data.toList).take k)
            have TL : ((nb s.data.toList).take k).length ≤ k := by simp; omega
            by_cases c10 : bt s k = 10
            · rw [c10] at e ES
              rw [if_pos rfl] at ES
              generalize ends ((nb s.data.toList).take k) = E at *
              have ES := Lib.hid ES
              go_wp2
              go_round
              case rel => exact ⟨k + 1, by omega, by go_num, congrArg (Value.int .i64) (by have := ES.out; omega)⟩
              case measure => simp [intOf] <;> omega
            · have n10 : ((bt s k : Int) == 10) = false := by simp; omega
              rw [if_neg c10] at ES
              generalize ends ((nb s.data.toList).take k) = E at *
              generalize bt s k = c at *
              have ES := Lib.hid ES
              go_wp2
              go_round
              case rel => exact ⟨k + 1, by omega, by go_num, congrArg (Value.int .i64) (by have := ES.out; omega)⟩
              case measure => simp [intOf] <;> omega
          · obtain rfl : k = s.size := by omega
            have hD : ends ((nb s.data.toList).take s.size) = ends (nb s.data.toList) := by rw [List.take_of_length_le (by unfold nb; simp)]
            have hE := ends_le (nb s.data.toList)
            have hEl : (nb s.data.toList).length = s.size := by unfold nb; simp
            rw [hD]
            generalize ends (nb s.data.toList) = E at *
            have hno := hno.out
            subst hno
            go_wp2
            go_ret
            exact ⟨by simp, h04.out⟩
      · have hx := hxp rfl
        go_wp2
        go_loop [12, 13] (fun d i => ∃ k : Nat, k ≤ s.size ∧ i = .int .i64 (k : Int) ∧ d = .int .i64 (((ends ((nb s.data.toList).take k) + 2 : Nat) : Int))) (fun _ i => s.size - (intOf i).toNat)
        case atStart => exact ⟨0, Nat.zero_le _, rfl, rfl⟩
        case round =>
          obtain ⟨k, hk, rfl, rfl⟩ := hrel
          by_cases hlt : k < s.size
          · have e := bt_at s k hlt
            have lt := bt_lt s k
            have ES := ends_step s k hlt
            have EL := ends_le ((nb s.data.toList).take k)
            have TL : ((nb s.data.toList).take k).length ≤ k := by simp; omega
            by_cases c10 : bt s k = 10
            · rw [c10] at e ES
              rw [if_pos rfl] at ES
              generalize ends ((nb s.data.toList).take k) = E at *
              have ES := Lib.hid ES
              go_wp2
              go_round
              case rel => exact ⟨k + 1, by omega, by go_num, congrArg (Value.int .i64) (by have := ES.out; omega)⟩
              case measure => simp [intOf] <;> omega
            · have n10 : ((bt s k : Int) == 10) = false := by simp; omega
              rw [if_neg c10] at ES
              generalize ends ((nb s.data.toList).take k) = E at *
              generalize bt s k = c at *
              have ES := Lib.hid ES
              go_wp2
              go_round
              case rel => exact ⟨k + 1, by omega, by go_num, congrArg (Value.int .i64) (by have := ES.out; omega)⟩
              case measure => simp [intOf] <;> omega
          · obtain rfl : k = s.size := by omega
            have hD : ends ((nb s.data.toList).take s.size) = ends (nb s.data.toList) := by rw [List.take_of_length_le (by unfold nb; simp)]
            have hE := ends_le (nb s.data.toList)
            have hEl : (nb s.data.toList).length = s.size := by unfold nb; simp
            rw [hD]
            generalize ends (nb s.data.toList) = E at *
            go_wp2
            go_ret
            exact ⟨by simp [hx], h04.out⟩

theorem own : ownKnob Tryd.prog.godebug = none := by kernel_rfl
set_option maxRecDepth 100000 in
theorem lifted (os : Os) (started : os.Started) (H : Type) (enc : TypeId × Value → H) :
    ReturnsInHanded {} Tryd.checked os 4 .any (fun w args => (Rows.sceneFrontsSpec.pre enc Tryd.prog Tryd.f4 [] false w args ∧ laidMetH Tryd.prog Rows.sceneFrontsRow.laid w) ∧ sizedMet enc Tryd.prog Tryd.f4 (OpenSpec.ofChange Rows.sceneFrontsSpec) false w args)
      (Rows.sceneFrontsSpec.post enc Tryd.prog Tryd.f4 false true false false) := by
  refine returnsInHanded_of_calls (C := Tryd.checked) own started (by kernel_rfl)
    (ChangeSpec.witness_shaped (enc := enc) (C := Tryd.checked) (os := os) (X := fun w _ => laidMetH Tryd.prog Rows.sceneFrontsRow.laid w) false (World.laidAll Tryd.prog os Rows.sceneFrontsRow.laid) #[.string ByteArray.empty, .string ByteArray.empty] 12 (World.laidAll_os _ _ _)
      (World.shaped_of_ZipB (by kernel_rfl) (by kernel_rfl)) (by kernel_rfl) (by kernel_rfl) (by kernel_rfl)
      (by rw [MakeChecks.laidMetH_plain _ _ _ (by kernel_rfl)]; exact laidMet_laidAll _ (by kernel_rfl) (by kernel_rfl))) ?_
  rintro w tape ⟨vars, args, fns⟩ _ hsh _ ⟨_, _, _, fn, hfn, _, _, _, _, hval⟩ ⟨⟨⟨ds, gs, before, hw, _⟩, hx⟩, _⟩ _
  obtain rfl := Option.some.inj (Tryd.func4.symm.trans hfn)
  have hW := DataW.Whole.of_heap (w' := w.forCall tape ⟨vars, args, fns⟩) (by rfl) hw
  have hL := laidMetH.of_heap (w' := w.forCall tape ⟨vars, args, fns⟩) (by rfl) hx
  rw [MakeChecks.laidMetH_plain _ _ _ (by kernel_rfl)] at hL
  have ht : Tabs (w.forCall tape ⟨vars, args, fns⟩) := tabs_of (by unfold Rows.sceneFrontsRow; simp) hL hsh
  generalize w.forCall tape ⟨vars, args, fns⟩ = W at *
  have hW' := hW
  obtain ⟨p, q, hA0, hV, rfl, hfz, hnd⟩ := hW
  have hA : DataW.TrodAll enc Tryd.prog W 0 (fun _ => true) true Tryd.f4.params.toList args.toList ds p := hA0
  rw [Tryd.params4] at hA hval
  obtain ⟨v0, vs0, d0, ds0, p0, q0, hargs, rfl, rfl, h0, r0⟩ := trodAll_cons hA
  obtain ⟨v1, vs1, d1, ds1, p1, q1, rfl, rfl, rfl, h1, r1⟩ := trodAll_cons r0
  obtain ⟨rfl, rfl, rfl⟩ := trodAll_nil r1
  obtain rfl : args = #[v0, v1] := by cases args; simp_all
  obtain ⟨s0, rfl, b0⟩ := open_Str (hval 0 9 v0 rfl rfl) h0
  obtain ⟨s1, rfl, b1⟩ := open_Str (hval 1 9 v1 rfl rfl) h1
  refine (walk W s0 b0 s1 b1 ht).mono fun e W' ⟨he, hb⟩ => ?_
  subst he
  exact ChangeSpec.post_blind (law_post (tb := 4) (by kernel_rfl) (by kernel_rfl) rfl rfl Tryd.underlying4 rfl rfl rfl hW' hb)

theorem row : Rows.sceneFrontsRow.holds Tryd.pinned (OpenSpec.ofChange Rows.sceneFrontsSpec) :=
  OpenClaim.holds_of_wide 4 Tryd.f4 rfl rfl rfl rfl rfl rfl rfl ⟨rfl, rfl, rfl, rfl, rfl⟩ rfl rfl rfl rfl rfl (by kernel_rfl) Tryd.func4 (by kernel_rfl)
    (of_decide_eq_true (by kernel_rfl)) (by unfold Func.isWrapper; first | (rw [if_pos (by decide +kernel)]; kernel_rfl) | (rw [if_neg (by decide +kernel)]; exact ⟨rfl, rfl⟩))
    (fun os started H enc _ => lifted os started H enc)

theorem proved : Rows.SceneFrontsCardSaid :=
  Claim7.holds_tied_plain_at .later [] [.data, .listed, .data, .pinned] true _ _ row (fun _ h => by cases h) (by kernel_rfl) (fun _ h => by cases h) sceneFronts_row_tie rfl ⟨rfl, rfl⟩ (by kernel_rfl) rfl
    (fun f fn hf hfn => by
      obtain rfl : f = 4 := Option.some.inj ((show Tryd.prog.funcNamed "relievo/relievolaw06.SceneFronts" = some 4 by kernel_rfl).symm.trans hf) |>.symm
      obtain rfl : fn = Tryd.f4 := (Option.some.inj (Tryd.func4.symm.trans hfn)).symm
      exact ⟨by kernel_rfl, fun j t hj => by
        have hm : t ∈ Tryd.f4.params.toList := by
          have := Array.mem_of_getElem? hj
          simpa using this
        have hall : (Tryd.f4.params.toList.all fun u => !Tryd.prog.wantsStandIn u) = true := by kernel_rfl
        exact (show Tryd.prog.wantsStandIn t = false by simpa using List.all_eq_true.1 hall t hm)⟩)
    (by kernel_rfl)
#print axioms proved
end Go.Proofs.YtpigcppiiiacfaaDoor.sceneFronts
