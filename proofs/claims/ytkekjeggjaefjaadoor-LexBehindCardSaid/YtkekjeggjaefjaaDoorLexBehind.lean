/- LexBehind holds for every input: the row, out of the walk; the card, tied. No condition but the row's own: the listed tables of the library read as the program's text lays them. -/
import Derived.Test.YtkekjeggjaefjaaDoorRows
import Derived.Test.YtkekjeggjaefjaaDoorCards
import Derived.Test.YtkekjeggjaefjaaDoorTie
import Derived.Test.YtkekjeggjaefjaaDoorTabsOf
import Derived.Test.YtkekjeggjaefjaaDoorOpenS
import Derived.Test.YtkekjeggjaefjaaDoorLexT
import Derived.Test.YtkekjeggjaefjaaDoorPost
import Derived.LaidMore
import Derived.Lay
import Derived.SevenTiedAt
namespace Go.Proofs.YtkekjeggjaefjaaDoor.lexBehind
open Go.ChangeShapes Go.WideShapes Go.ChangeAt Go.RowKit
set_option linter.unusedVariables false
set_option linter.unusedSimpArgs false
set_option maxHeartbeats 2000000 in
theorem walk_a (w : World) (s t : ByteArray) (ht : Tabs w) (h1 : s.size ≤ 3000) (h2 : t.size ≤ 3000) (hu : (s ++ (⟨#[10]⟩ : ByteArray) ++ t).size ≤ 65536) (n : Nat) (e1 : linesP 1 [] (spl s.data.toList) = .error n) (e3 : linesP 1 [] (spl (s ++ (⟨#[10]⟩ : ByteArray) ++ t).data.toList) = .error n) (e2 : (∃ m, linesP 1 [] (spl t.data.toList) = .error m) ∨ ∃ o, linesP 1 [] (spl t.data.toList) = .ok o) : Calls Tryd.prog 6 #[.string s, .string t] w fun e w' => e = .returned (.bool true) ∧ Below w.heap.size w w' := by
  have cA := alive5_any w ht
  have h' : (s.size : Int) ≤ 3000 := by omega
  have h'' : (t.size : Int) ≤ 3000 := by omega
  have hs1 : s.size ≤ 65536 := by omega
  have hs2 : t.size ≤ 65536 := by omega
  have hcs : (s ++ (⟨#[10]⟩ : ByteArray) ++ t).size = s.size + 1 + t.size := by simp [ByteArray.size_append]; rfl
  have cS := fun (w1 : World) (hb : Below w.heap.size w w1) => lines_err w1 s hs1 (ht.below hb) e1
  have cU := fun (w1 : World) (hb : Below w.heap.size w w1) => lines_err w1 (s ++ (⟨#[10]⟩ : ByteArray) ++ t) hu (ht.below hb) e3
  rcases e2 with ⟨m, e2⟩ | ⟨ob, e2⟩
  · have cT := fun (w1 : World) (hb : Below w.heap.size w w1) => lines_err w1 t hs2 (ht.below hb) e2
    clear e1 e2 e3 ht
    go_enter Tryd.func6, Tryd.ntmps6
    go_wp2_with (first | (go_at_call 9; refine cA.mono ?_; rintro e w1 ⟨rfl, hc1⟩) | (go_at_call 10; (with_reducible refine (cS _ hc1).mono ?_); rintro e w2 ⟨rfl, hb2⟩; have hc2 : Below w.heap.size w w2 := hc1.trans (hb2.mono hc1.size)) | (go_at_call 10; (with_reducible refine (cT _ hc2).mono ?_); rintro e w3 ⟨rfl, hb3⟩; have hc3 : Below w.heap.size w w3 := hc2.trans (hb3.mono hc2.size)) | (go_at_call 10; (with_reducible refine (cU _ hc3).mono ?_); rintro e w4 ⟨rfl, hb4⟩; have hc4 : Below w.heap.size w w4 := hc3.trans (hb4.mono hc3.size)))
    go_ret
    exact ⟨rfl, hc4⟩
  · have cT := fun (w1 : World) (hb : Below w.heap.size w w1) => lines_ok w1 t hs2 (ht.below hb) e2
    clear e1 e2 e3 ht
    go_enter Tryd.func6, Tryd.ntmps6
    go_wp2_with (first | (go_at_call 9; refine cA.mono ?_; rintro e w1 ⟨rfl, hc1⟩) | (go_at_call 10; (with_reducible refine (cS _ hc1).mono ?_); rintro e w2 ⟨rfl, hb2⟩; have hc2 : Below w.heap.size w w2 := hc1.trans (hb2.mono hc1.size)) | (go_at_call 10; (with_reducible refine (cT _ hc2).mono ?_); rintro e w3 ⟨v2, ls2, rfl, hb3, hL2, ho2⟩; have hc3 : Below w.heap.size w w3 := hc2.trans (hb3.mono hc2.size)) | (go_at_call 10; (with_reducible refine (cU _ hc3).mono ?_); rintro e w4 ⟨rfl, hb4⟩; have hc4 : Below w.heap.size w w4 := hc3.trans (hb4.mono hc3.size)))
    go_ret
    exact ⟨rfl, hc4⟩
set_option maxHeartbeats 2000000 in
theorem walk_b (w : World) (s t : ByteArray) (ht : Tabs w) (h1 : s.size ≤ 3000) (h2 : t.size ≤ 3000) (hu : (s ++ (⟨#[10]⟩ : ByteArray) ++ t).size ≤ 65536) (oa : List (Nat × List (List Nat))) (m : Nat) (hm : m ≤ 3002) (e1 : linesP 1 [] (spl s.data.toList) = .ok oa) (e2 : linesP 1 [] (spl t.data.toList) = .error m) (e3 : linesP 1 [] (spl (s ++ (⟨#[10]⟩ : ByteArray) ++ t).data.toList) = .error (m + (ends (nb s.data.toList) + 1))) : Calls Tryd.prog 6 #[.string s, .string t] w fun e w' => e = .returned (.bool true) ∧ Below w.heap.size w w' := by
  have cA := alive5_any w ht
  have h' : (s.size : Int) ≤ 3000 := by omega
  have h'' : (t.size : Int) ≤ 3000 := by omega
  have hs1 : s.size ≤ 65536 := by omega
  have hs2 : t.size ≤ 65536 := by omega
  have hcs : (s ++ (⟨#[10]⟩ : ByteArray) ++ t).size = s.size + 1 + t.size := by simp [ByteArray.size_append]; rfl
  have cS := fun (w1 : World) (hb : Below w.heap.size w w1) => lines_ok w1 s hs1 (ht.below hb) e1
  have cU := fun (w1 : World) (hb : Below w.heap.size w w1) => lines_err w1 (s ++ (⟨#[10]⟩ : ByteArray) ++ t) hu (ht.below hb) e3
  have cT := fun (w1 : World) (hb : Below w.heap.size w w1) => lines_err w1 t hs2 (ht.below hb) e2
  clear e1 e2 e3 ht
  go_enter Tryd.func6, Tryd.ntmps6
  go_wp2_with (first | (go_at_call 9; refine cA.mono ?_; rintro e w1 ⟨rfl, hc1⟩) | (go_at_call 10; (with_reducible refine (cS _ hc1).mono ?_); rintro e w2 ⟨v1, ls1, rfl, hb2, hL1, ho1⟩; have hc2 : Below w.heap.size w w2 := hc1.trans (hb2.mono hc1.size)) | (go_at_call 10; (with_reducible refine (cT _ hc2).mono ?_); rintro e w3 ⟨rfl, hb3⟩; have hc3 : Below w.heap.size w w3 := hc2.trans (hb3.mono hc2.size)) | (go_at_call 10; (with_reducible refine (cU _ hc3).mono ?_); rintro e w4 ⟨rfl, hb4⟩; have hc4 : Below w.heap.size w w4 := hc3.trans (hb4.mono hc3.size)))
  go_loop [14, 15] (fun d i => ∃ k : Nat, k ≤ s.size ∧ i = .int .i64 (k : Int) ∧ d = .int .i64 (((ends ((nb s.data.toList).take k) + 1 : Nat) : Int))) (fun _ i => s.size - (intOf i).toNat)
  case atStart => exact ⟨0, Nat.zero_le _, rfl, rfl⟩
  case round =>
    obtain ⟨k, hk, rfl, rfl⟩ := hrel
    by_cases hlt : k < s.size
    · have e := bt_at s k hlt
      have lt := bt_lt s k
      have ES := ends_step s k hlt
      have EL := ends_le ((nb s.data.toList).take k)
      have TL : ((nb s.data.toList).take k).length ≤ k := by simp; omega
      by_cases c10 : bt s k = 10
      · rw [c10] at e ES
        rw [if_pos rfl] at ES
        generalize ends ((nb s.data.toList).take k) = E at *
        have ES := Lib.hid ES
        go_wp2
        go_round
        case rel => exact ⟨k + 1, by omega, by go_num, congrArg (Value.int .i64) (by have := ES.out; omega)⟩
        case measure => simp [intOf] <;> omega
      · have n10 : ((bt s k : Int) == 10) = false := by simp; omega
        rw [if_neg c10] at ES
        generalize ends ((nb s.data.toList).take k) = E at *
        generalize bt s k = c at *
        have ES := Lib.hid ES
        go_wp2
        go_round
        case rel => exact ⟨k + 1, by omega, by go_num, congrArg (Value.int .i64) (by have := ES.out; omega)⟩
        case measure => simp [intOf] <;> omega
    · obtain rfl : k = s.size := by omega
      have hD : ends ((nb s.data.toList).take s.size) = ends (nb s.data.toList) := by rw [List.take_of_length_le (by unfold nb; simp)]
      have hE := ends_le (nb s.data.toList)
      have hEl : (nb s.data.toList).length = s.size := by unfold nb; simp
      rw [hD]
      generalize ends (nb s.data.toList) = E at *
      go_wp2
      go_ret
      exact ⟨rfl, hc4⟩
set_option maxHeartbeats 4000000 in
theorem walk_c (w : World) (s t : ByteArray) (ht : Tabs w) (h1 : s.size ≤ 3000) (h2 : t.size ≤ 3000) (hu : (s ++ (⟨#[10]⟩ : ByteArray) ++ t).size ≤ 65536) (oa ob : List (Nat × List (List Nat))) (hoa : oa.length ≤ 3001) (hob : ob.length ≤ 3001) (hno : ∀ q ∈ ob, q.1 ≤ 3002) (e1 : linesP 1 [] (spl s.data.toList) = .ok oa) (e2 : linesP 1 [] (spl t.data.toList) = .ok ob) (e3 : linesP 1 [] (spl (s ++ (⟨#[10]⟩ : ByteArray) ++ t).data.toList) = .ok (oa ++ bumpO (ends (nb s.data.toList) + 1) ob)) : Calls Tryd.prog 6 #[.string s, .string t] w fun e w' => e = .returned (.bool true) ∧ Below w.heap.size w w' := by
  obtain ⟨i0, hi0, hz0, hz1, hz2⟩ := info_parts infoLn
  have cA := alive5_any w ht
  have h' : (s.size : Int) ≤ 3000 := by omega
  have h'' : (t.size : Int) ≤ 3000 := by omega
  have hs1 : s.size ≤ 65536 := by omega
  have hs2 : t.size ≤ 65536 := by omega
  have hcs : (s ++ (⟨#[10]⟩ : ByteArray) ++ t).size = s.size + 1 + t.size := by simp [ByteArray.size_append]; rfl
  have cS := fun (w1 : World) (hb : Below w.heap.size w w1) => lines_ok w1 s hs1 (ht.below hb) e1
  have cU := fun (w1 : World) (hb : Below w.heap.size w w1) => lines_ok w1 (s ++ (⟨#[10]⟩ : ByteArray) ++ t) hu (ht.below hb) e3
  have cT := fun (w1 : World) (hb : Below w.heap.size w w1) => lines_ok w1 t hs2 (ht.below hb) e2
  clear e1 e2 e3 ht
  go_enter Tryd.func6, Tryd.ntmps6
  go_wp2_with (first | (go_at_call 9; refine cA.mono ?_; rintro e w1 ⟨rfl, hc1⟩) | (go_at_call 10; (with_reducible refine (cS _ hc1).mono ?_); rintro e w2 ⟨v1, ls1, rfl, hb2, hL1, ho1⟩; have hc2 : Below w.heap.size w w2 := hc1.trans (hb2.mono hc1.size)) | (go_at_call 10; (with_reducible refine (cT _ hc2).mono ?_); rintro e w3 ⟨v2, ls2, rfl, hb3, hL2, ho2⟩; have hc3 : Below w.heap.size w w3 := hc2.trans (hb3.mono hc2.size)) | (go_at_call 10; (with_reducible refine (cU _ hc3).mono ?_); rintro e w4 ⟨v3, ls3, rfl, hb4, hL3, ho3⟩; have hc4 : Below w.heap.size w w4 := hc3.trans (hb4.mono hc3.size)))
  clear cA cS cT cU
  go_loop [14, 15] (fun d i => ∃ k : Nat, k ≤ s.size ∧ i = .int .i64 (k : Int) ∧ d = .int .i64 (((ends ((nb s.data.toList).take k) + 1 : Nat) : Int))) (fun _ i => s.size - (intOf i).toNat)
  case atStart => exact ⟨0, Nat.zero_le _, rfl, rfl⟩
  case round =>
    obtain ⟨k, hk, rfl, rfl⟩ := hrel
    by_cases hlt : k < s.size
    · have e := bt_at s k hlt
      have lt := bt_lt s k
      have ES := ends_step s k hlt
      have EL := ends_le ((nb s.data.toList).take k)
      have TL : ((nb s.data.toList).take k).length ≤ k := by simp; omega
      by_cases c10 : bt s k = 10
      · rw [c10] at e ES
        rw [if_pos rfl] at ES
        generalize ends ((nb s.data.toList).take k) = E at *
        have ES := Lib.hid ES
        go_wp2
        go_round
        case rel => exact ⟨k + 1, by omega, by go_num, congrArg (Value.int .i64) (by have := ES.out; omega)⟩
        case measure => simp [intOf] <;> omega
      · have n10 : ((bt s k : Int) == 10) = false := by simp; omega
        rw [if_neg c10] at ES
        generalize ends ((nb s.data.toList).take k) = E at *
        generalize bt s k = c at *
        have ES := Lib.hid ES
        go_wp2
        go_round
        case rel => exact ⟨k + 1, by omega, by go_num, congrArg (Value.int .i64) (by have := ES.out; omega)⟩
        case measure => simp [intOf] <;> omega
    · obtain rfl : k = s.size := by omega
      have hD : ends ((nb s.data.toList).take s.size) = ends (nb s.data.toList) := by rw [List.take_of_length_le (by unfold nb; simp)]
      have hE := ends_le (nb s.data.toList)
      have hEl : (nb s.data.toList).length = s.size := by unfold nb; simp
      rw [hD]
      have la : ls1.length ≤ 3001 := by have k := congrArg List.length ho1; unfold outOf at k; simp at k; omega
      have lb : ls2.length ≤ 3001 := by have k := congrArg List.length ho2; unfold outOf at k; simp at k; omega
      have hnb : ∀ i (h : i < ls2.length), (ls2[i]).no ≤ 3002 := fun i h => by
        refine hno (_, (ls2[i]).words.map nb) ?_
        rw [← ho2]
        unfold outOf
        exact List.mem_map.2 ⟨_, List.getElem_mem h, rfl⟩
      generalize hDD : ends (nb s.data.toList) + 1 = D at *
      have hDl : D ≤ 3001 := by omega
      clear hDD hD hE hEl hno
      obtain ⟨A1, c1, rfl⟩ := own_form hL1.1
      obtain ⟨A3, c3, rfl⟩ := own_form hL3.1
      have hB0 := hL2.below hb4
      have hx0 : Below w2.heap.size w2 w4 := hb3.trans (hb4.mono hb3.size)
      rcases Nat.eq_zero_or_pos ls2.length with hz | hz
      · obtain rfl : ls2 = [] := List.eq_nil_of_length_eq_zero hz
        have hA := hL1.below hx0
        have hO0 : outOf ls3 = outOf ls1 := by rw [ho3, ho1, ← ho2]; simp [outOf, bumpO]
        have hN0 : ls3.length ≤ 1048576 := by
          have k := congrArg List.length hO0
          unfold outOf at k
          simp at k
          omega
        have hbs : w1.heap.size ≤ w4.heap.size := Nat.le_trans hb2.size hx0.size
        have own2 := hL2.1.2
        clear hB0 hL2 ho1 ho2 ho3 hnb
        rcases own2 with ⟨rfl, _⟩ | ⟨g, c2, cur, rfl, hg1, hg2, _⟩
        · go_wp2
          go_loop [16] (fun i => i = .int .i64 0) (fun _ => 0)
          case atStart => rfl
          case round =>
            subst hrel
            go_wp2_with (first | (at_builtin; refine wpList_guarded (by rfl) (fun K6 hK6 => ?_); refine wp_append_nothing _ _ 23 rfl w1.heap.size 35 i0 2 Tryd.underlying23 hi0 _ _ _ rfl hA.1 rfl (hK6 _ _ ?_)) | (go_at_call 12; refine (same_LNS _ hL3 hA hO0 hN0).mono ?_; rintro e _ ⟨rfl, x6, rfl⟩))
            go_ret
            exact ⟨rfl, bel_grow hc4 _⟩
        · have FIN := Lib.hid (show ∀ (v5 : Value) (w5 : World), w5.ownsRow w1.heap.size 35 2 v5 (ls1.length + 0) (lnC ls1 ++ []) → w4.grownBy w5 (Value.slice A1 ls1.length c1).ownBlock → Below w.heap.size w w5 ∧ LNS w5 w3.heap.size (.slice A3 ls3.length c3) ls3 ∧ LNS w5 w1.heap.size v5 ls1 from fun v5 w5 hown hgrow => by
            rw [List.append_nil, Nat.add_zero] at hown
            refine ⟨hc4.grown hgrow hc4.size (fun j hj => Nat.le_trans hc1.size (hL1.1.lt j hj).1), hL3.high hgrow (fun j hj => Nat.lt_of_lt_of_le (hL1.1.lt j hj).2 hb3.size), ?_⟩
            have k := LNS.grown (ls' := []) hA (fun q hq => by cases hq) hgrow (by simpa using hown)
            simpa using k)
          go_wp2
          go_loop [16] (fun i => i = .int .i64 0) (fun _ => 0)
          case atStart => rfl
          case round =>
            subst hrel
            go_wp2_with (first | (at_builtin; refine wpList_guarded (by rfl) (fun K6 hK6 => ?_); refine wp_append_own _ _ _ 23 rfl w1.heap.size 35 i0 _ 2 32 Tryd.underlying23 hi0 hz0 hz1 hz2 rfl (by decide) _ _ _ rfl hA.1 ⟨g, 0, none⟩ 0 c2 [] rfl rfl (fun j u h => by cases h) (fun u h => by cases h) (by unfold maxLen; omega) (by omega) hbs ?_; intro v5 w5 hown hgrow hnil; obtain ⟨hc5, hC5, hF5⟩ := FIN.out v5 w5 hown hgrow; refine hK6 _ _ ?_) | (go_at_call 12; refine (same_LNS _ hC5 hF5 hO0 hN0).mono ?_; rintro e _ ⟨rfl, x6, rfl⟩))
            go_ret
            exact ⟨rfl, bel_grow hc5 _⟩
      · obtain ⟨g, c2, rfl, hg1, hg2⟩ := World.ownsRow.form hL2.1 hz
        go_wp2
        go_loopw [16] (fun i wr => ∃ k : Nat, i = .int .i64 (k : Int) ∧ k ≤ ls2.length ∧ LNS wr w2.heap.size (.slice (some ⟨g, 0, none⟩) ls2.length c2) (bump D k ls2) ∧ LNS wr w3.heap.size (.slice A3 ls3.length c3) ls3 ∧ Below w2.heap.size w2 wr ∧ Below w.heap.size w wr) (fun i _ => ls2.length - (intOf i).toNat)
        case atStart => exact ⟨0, rfl, by omega, hB0, hL3, hx0, hc4⟩
        case round =>
          obtain ⟨k, rfl, hk, hB, hC, hx, hcw⟩ := hrel
          clear hB0
          by_cases hlt2 : k < ls2.length
          · have own := hB.1
            rw [bump_len] at own
            have q0 := own.cellAt (k * 2) (by omega)
            rw [bump_get D k ls2 hlt2] at q0
            have q1 := own.frozenAt (k * 2)
            have q2 := (own.lt g rfl).2
            have ST := hB.bumped rfl hlt2
            rw [Int.natCast_add] at ST
            have q3 := hnb k hlt2
            have k0 : (0 : Int) ≤ (k : Int) := by omega
            have k1 : (k : Int) < (ls2.length : Int) := by omega
            have KP := Lib.hid (And.intro ST (And.intro hC (And.intro hx hcw)))
            clear ST hC hx hcw own hB
            generalize (ls2[k]).no = N at *
            go_wp2
            go_roundw
            case rel =>
              obtain ⟨⟨s1, s2⟩, s3, s4, s5⟩ := KP.out
              refine ⟨k + 1, by go_num, by omega, s1, s3.high s2 (fun j hj => by injection hj with hj; omega), ?_, ?_⟩
              · exact bel_set0 s4 hg1 _
              · exact bel_set0 s5 (Nat.le_trans hc2.size hg1) _
            case measure => simp [intOf] <;> omega
          · obtain rfl : k = ls2.length := by omega
            have hA := hL1.below hx
            have own := hB.1
            rw [bump_len] at own
            have hnl : (lnC (bump D ls2.length ls2)).length = ls2.length * 2 := by rw [lnC_len, bump_len]
            have hcl := own.cells (g := g) rfl
            have hone := lnC_one _ hB.2
            have hbs : w1.heap.size ≤ wr.heap.size := Nat.le_trans hb2.size hx.size
            have FIN := Lib.hid (show ∀ (v5 : Value) (w5 : World), w5.ownsRow w1.heap.size 35 2 v5 (ls1.length + ls2.length) (lnC ls1 ++ lnC (bump D ls2.length ls2)) → wr.grownBy w5 (Value.slice A1 ls1.length c1).ownBlock → Below w.heap.size w w5 ∧ LNS w5 w3.heap.size (.slice A3 ls3.length c3) ls3 ∧ LNS w5 w1.heap.size v5 (ls1 ++ bump D ls2.length ls2) from fun v5 w5 hown hgrow => by
              refine ⟨hcw.grown hgrow hcw.size (fun j hj => Nat.le_trans hc1.size (hL1.1.lt j hj).1), hC.high hgrow (fun j hj => Nat.lt_of_lt_of_le (hL1.1.lt j hj).2 hb3.size), LNS.grown hA (fun q hq => (hB.2 q hq).mono hb2.size) hgrow ?_⟩
              rw [lnC_app, List.length_append, bump_len]
              exact hown)
            have hO5 : outOf ls3 = outOf (ls1 ++ bump D ls2.length ls2) := by rw [outOf_app, bump_out D _ _ (Nat.le_refl _), ho1, ho2, ho3]
            have hN5 : ls3.length ≤ 1048576 := by
              have k := congrArg List.length hO5
              unfold outOf at k
              simp [bump_len] at k
              omega
            clear hB hC hcw hL3 hx0 hx own
            go_wp2_with (first | (at_builtin; refine wpList_guarded (by rfl) (fun K6 hK6 => ?_); refine wp_append_own _ _ _ 23 rfl w1.heap.size 35 i0 _ 2 32 Tryd.underlying23 hi0 hz0 hz1 hz2 rfl (by decide) _ _ _ rfl hA.1 ⟨g, 0, none⟩ ls2.length c2 (lnC (bump D ls2.length ls2)) rfl hnl hcl hone (by unfold maxLen; omega) (by omega) hbs ?_; intro v5 w5 hown hgrow hnil; obtain ⟨hc5, hC5, hF5⟩ := FIN.out v5 w5 hown hgrow; refine hK6 _ _ ?_) | (go_at_call 12; refine (same_LNS _ hC5 hF5 hO5 hN5).mono ?_; rintro e _ ⟨rfl, x6, rfl⟩))
            go_ret
            exact ⟨rfl, bel_grow hc5 _⟩
theorem walk (w : World) (s : ByteArray) (hs : s.size ≤ maxLen) (t : ByteArray) (hs' : t.size ≤ maxLen) (ht : Tabs w) : Calls Tryd.prog 6 #[.string s, .string t] w fun e w' => e = .returned (.bool true) ∧ Below w.heap.size w w' := by
  by_cases h1 : 3000 < s.size
  · have cA := alive5_any w ht
    have h' : (3000 : Int) < (s.size : Int) := by omega
    go_enter Tryd.func6, Tryd.ntmps6
    go_wp2_with (first | (go_at_call 9; refine cA.mono ?_; rintro e w1 ⟨rfl, hb1⟩))
    go_ret
    exact ⟨rfl, (by repeat (first | with_reducible exact Below.refl _ _ | with_reducible assumption | with_reducible refine bel_then ?_ _ | with_reducible refine bel_grow ?_ _ | with_reducible refine bel_alloc ?_ _ | with_reducible refine bel_drew ?_))⟩
  by_cases h2 : 3000 < t.size
  · have cA := alive5_any w ht
    have h' : (3000 : Int) < (t.size : Int) := by omega
    have h'' : (s.size : Int) ≤ 3000 := by omega
    go_enter Tryd.func6, Tryd.ntmps6
    go_wp2_with (first | (go_at_call 9; refine cA.mono ?_; rintro e w1 ⟨rfl, hb1⟩))
    go_ret
    exact ⟨rfl, (by repeat (first | with_reducible exact Below.refl _ _ | with_reducible assumption | with_reducible refine bel_then ?_ _ | with_reducible refine bel_grow ?_ _ | with_reducible refine bel_alloc ?_ _ | with_reducible refine bel_drew ?_))⟩
  have hcs : (s ++ (⟨#[10]⟩ : ByteArray) ++ t).size = s.size + 1 + t.size := by simp [ByteArray.size_append]; rfl
  have k1 := spl_len s.data.toList
  have k2 := spl_len t.data.toList
  simp at k1 k2
  rcases behind_run s t with ⟨n, e1, e3, e2⟩ | ⟨oa, e1, ⟨m, e2, e3⟩ | ⟨ob, e2, e3⟩⟩
  · exact walk_a w s t ht (by omega) (by omega) (by omega) n e1 e3 e2
  · have k := linesP_err _ _ _ _ e2
    exact walk_b w s t ht (by omega) (by omega) (by omega) oa m (by omega) e1 e2 e3
  · have l1 := linesP_len _ _ _ _ e1
    have l2 := linesP_len _ _ _ _ e2
    simp at l1 l2
    exact walk_c w s t ht (by omega) (by omega) (by omega) oa ob (by omega) (by omega) (linesP_no _ 1 3002 [] ob e2 (fun q hq => by cases hq) (by omega)) e1 e2 e3

theorem own : ownKnob Tryd.prog.godebug = none := by kernel_rfl
set_option maxRecDepth 100000 in
theorem lifted (os : Os) (started : os.Started) (H : Type) (enc : TypeId × Value → H) :
    ReturnsInHanded {} Tryd.checked os 6 .any (fun w args => (Rows.lexBehindSpec.pre enc Tryd.prog Tryd.f6 [] false w args ∧ laidMetH Tryd.prog Rows.lexBehindRow.laid w) ∧ sizedMet enc Tryd.prog Tryd.f6 (OpenSpec.ofChange Rows.lexBehindSpec) false w args)
      (Rows.lexBehindSpec.post enc Tryd.prog Tryd.f6 false true false false) := by
  refine returnsInHanded_of_calls (C := Tryd.checked) own started (by kernel_rfl)
    (ChangeSpec.witness_shaped (enc := enc) (C := Tryd.checked) (os := os) (X := fun w _ => laidMetH Tryd.prog Rows.lexBehindRow.laid w) false (World.laidAll Tryd.prog os Rows.lexBehindRow.laid) #[.string ByteArray.empty, .string ByteArray.empty] 12 (World.laidAll_os _ _ _)
      (World.shaped_of_ZipB (by kernel_rfl) (by kernel_rfl)) (by kernel_rfl) (by kernel_rfl) (by kernel_rfl)
      (by rw [MakeChecks.laidMetH_plain _ _ _ (by kernel_rfl)]; exact laidMet_laidAll _ (by kernel_rfl) (by kernel_rfl))) ?_
  rintro w tape ⟨vars, args, fns⟩ _ hsh _ ⟨_, _, _, fn, hfn, _, _, _, _, hval⟩ ⟨⟨⟨ds, gs, before, hw, _⟩, hx⟩, _⟩ _
  obtain rfl := Option.some.inj (Tryd.func6.symm.trans hfn)
  have hW := DataW.Whole.of_heap (w' := w.forCall tape ⟨vars, args, fns⟩) (by rfl) hw
  have hL := laidMetH.of_heap (w' := w.forCall tape ⟨vars, args, fns⟩) (by rfl) hx
  rw [MakeChecks.laidMetH_plain _ _ _ (by kernel_rfl)] at hL
  have ht : Tabs (w.forCall tape ⟨vars, args, fns⟩) := tabs_of (by unfold Rows.lexBehindRow; simp) hL hsh
  generalize w.forCall tape ⟨vars, args, fns⟩ = W at *
  have hW' := hW
  obtain ⟨p, q, hA0, hV, rfl, hfz, hnd⟩ := hW
  have hA : DataW.TrodAll enc Tryd.prog W 0 (fun _ => true) true Tryd.f6.params.toList args.toList ds p := hA0
  rw [Tryd.params6] at hA hval
  obtain ⟨v0, vs0, d0, ds0, p0, q0, hargs, rfl, rfl, h0, r0⟩ := trodAll_cons hA
  obtain ⟨v1, vs1, d1, ds1, p1, q1, rfl, rfl, rfl, h1, r1⟩ := trodAll_cons r0
  obtain ⟨rfl, rfl, rfl⟩ := trodAll_nil r1
  obtain rfl : args = #[v0, v1] := by cases args; simp_all
  obtain ⟨s0, rfl, b0⟩ := open_Str (hval 0 9 v0 rfl rfl) h0
  obtain ⟨s1, rfl, b1⟩ := open_Str (hval 1 9 v1 rfl rfl) h1
  refine (walk W s0 b0 s1 b1 ht).mono fun e W' ⟨he, hb⟩ => ?_
  subst he
  exact ChangeSpec.post_blind (law_post (tb := 4) (by kernel_rfl) (by kernel_rfl) rfl rfl Tryd.underlying4 rfl rfl rfl hW' hb)

theorem row : Rows.lexBehindRow.holds Tryd.pinned (OpenSpec.ofChange Rows.lexBehindSpec) :=
  OpenClaim.holds_of_wide 6 Tryd.f6 rfl rfl rfl rfl rfl rfl rfl ⟨rfl, rfl, rfl, rfl, rfl⟩ rfl rfl rfl rfl rfl (by kernel_rfl) Tryd.func6 (by kernel_rfl)
    (of_decide_eq_true (by kernel_rfl)) (by unfold Func.isWrapper; first | (rw [if_pos (by decide +kernel)]; kernel_rfl) | (rw [if_neg (by decide +kernel)]; exact ⟨rfl, rfl⟩))
    (fun os started H enc _ => lifted os started H enc)

theorem proved : Rows.LexBehindCardSaid :=
  Claim7.holds_tied_plain_at .later [] [.data, .listed, .data, .pinned] true _ false row (fun _ h => by cases h) (by kernel_rfl) (fun _ h => by cases h) lexBehind_row_tie rfl ⟨rfl, rfl⟩ (by kernel_rfl) rfl
    (fun f fn hf hfn => by
      obtain rfl : f = 6 := Option.some.inj ((show Tryd.prog.funcNamed "relievo/relievolaw05.LexBehind" = some 6 by kernel_rfl).symm.trans hf) |>.symm
      obtain rfl : fn = Tryd.f6 := (Option.some.inj (Tryd.func6.symm.trans hfn)).symm
      exact ⟨by kernel_rfl, fun j t hj => by
        have hm : t ∈ Tryd.f6.params.toList := by
          have := Array.mem_of_getElem? hj
          simpa using this
        have hall : (Tryd.f6.params.toList.all fun u => !Tryd.prog.wantsStandIn u) = true := by kernel_rfl
        exact (show Tryd.prog.wantsStandIn t = false by simpa using List.all_eq_true.1 hall t hm)⟩)
    (by kernel_rfl)
#print axioms proved
end Go.Proofs.YtkekjeggjaefjaaDoor.lexBehind
