/- LexLines holds for every input: the row, out of the walk; the card, tied. No condition but the row's own: the listed tables of the library read as the program's text lays them. -/
import Derived.Test.YtkekjeggjaefjaaDoorRows
import Derived.Test.YtkekjeggjaefjaaDoorCards
import Derived.Test.YtkekjeggjaefjaaDoorTie
import Derived.Test.YtkekjeggjaefjaaDoorTabsOf
import Derived.Test.YtkekjeggjaefjaaDoorOpenS
import Derived.Test.YtkekjeggjaefjaaDoorLexS
import Derived.Test.YtkekjeggjaefjaaDoorLexR2
import Derived.Test.YtkekjeggjaefjaaDoorPost
import Derived.LaidMore
import Derived.Lay
import Derived.SevenTiedAt
namespace Go.Proofs.YtkekjeggjaefjaaDoor.lexLines
open Go.ChangeShapes Go.WideShapes Go.ChangeAt Go.RowKit
set_option linter.unusedVariables false
set_option linter.unusedSimpArgs false
set_option maxHeartbeats 2000000 in
theorem walk (w : World) (s : ByteArray) (hs : s.size ≤ maxLen) (ht : Tabs w) : Calls Tryd.prog 3 #[.string s] w fun e w' => e = .returned (.bool true) ∧ Below w.heap.size w w' := by
  have cA := alive5_any w ht
  by_cases h1 : 65536 < s.size
  · have c1 := lLines_long s h1
    have c2 := rLines_long s h1
    have h' : (65536 : Int) < (s.size : Int) := by omega
    have h'' : (5000 : Int) < (s.size : Int) := by omega
    go_enter Tryd.func3, Tryd.ntmps3
    go_wp2_with (first | (go_at_call 9; refine cA.mono ?_; rintro e w1 ⟨rfl, hb1⟩) | (go_at_call 10; refine (c1 _).mono ?_; rintro e _ ⟨rfl, x1, rfl⟩) | (go_at_call 11; refine (c2 _).mono ?_; rintro e _ ⟨rfl, x2, rfl⟩) | (go_at_call 12; refine (sameL_nil _ none none 0 0).mono ?_; rintro e _ ⟨rfl, x3, rfl⟩))
    go_ret
    exact ⟨rfl, (by repeat (first | with_reducible exact Below.refl _ _ | with_reducible assumption | with_reducible refine bel_then ?_ _ | with_reducible refine bel_grow ?_ _ | with_reducible refine bel_alloc ?_ _ | with_reducible refine bel_drew ?_))⟩
  · by_cases h2 : 5000 < s.size
    · have h' : (5000 : Int) < (s.size : Int) := by omega
      have h'' : (s.size : Int) ≤ 65536 := by omega
      go_enter Tryd.func3, Tryd.ntmps3
      go_wp2_with (first | (go_at_call 9; refine cA.mono ?_; rintro e w1 ⟨rfl, hb1⟩))
      go_ret
      exact ⟨rfl, (by repeat (first | with_reducible exact Below.refl _ _ | with_reducible assumption | with_reducible refine bel_then ?_ _ | with_reducible refine bel_grow ?_ _ | with_reducible refine bel_alloc ?_ _ | with_reducible refine bel_drew ?_))⟩
    · have h' : (s.size : Int) ≤ 5000 := by omega
      rcases lines_run s.data.toList with ⟨n, e1, e2⟩ | ⟨t, e1, e2⟩
      · skip
        go_enter Tryd.func3, Tryd.ntmps3
        go_wp2_with (first | (go_at_call 9; refine cA.mono ?_; rintro e w1 ⟨rfl, hb1⟩) | (go_at_call 10; refine (lLines_any _ s (by omega) (ht.below hb1)).mono ?_; rintro e w2 ⟨hb2, hp⟩; rw [e1] at hp; replace hp : e = .returned (.tuple #[.slice none 0 0, .int .i64 (n : Int), .int .i64 10]) := hp; subst hp) | (go_at_call 11; refine (rLines_any _ s (by omega)).mono ?_; rintro e w3 ⟨hb3, hp⟩; rw [e2] at hp; replace hp : e = .returned (.tuple #[.slice none 0 0, .int .i64 (n : Int), .int .i64 10]) := hp; subst hp) | (go_at_call 12; refine (sameL_nil _ none none 0 0).mono ?_; rintro e _ ⟨rfl, x3, rfl⟩))
        go_ret
        exact ⟨rfl, bel_grow ((hb1.trans (hb2.mono hb1.size)).trans (hb3.mono (Nat.le_trans hb1.size hb2.size))) _⟩
      · have hPn : t.out.length ≤ 65537 := by
          have k1 := linesP_len _ _ _ _ e1
          have k2 := spl_len s.data.toList
          simp at k1 k2
          omega
        go_enter Tryd.func3, Tryd.ntmps3
        go_wp2_with (first | (go_at_call 9; refine cA.mono ?_; rintro e w1 ⟨rfl, hb1⟩) | (go_at_call 10; refine (lLines_any _ s (by omega) (ht.below hb1)).mono ?_; rintro e w2 ⟨hb2, hp⟩; rw [e1] at hp; obtain ⟨v1, ls1, rfl, hL1, ho1⟩ := hp) | (go_at_call 11; refine (rLines_any _ s (by omega)).mono ?_; rintro e w3 ⟨hb3, hp⟩; rw [e2] at hp; obtain ⟨v2, ls2, rfl, hL2, ho2⟩ := hp) | (go_at_call 12; refine (same_LNS _ (hL1.below hb3) hL2 (ho1.trans ho2.symm) (by have k := congrArg List.length ho1; unfold outOf at k; simp at k; omega)).mono ?_; rintro e _ ⟨rfl, x3, rfl⟩))
        go_ret
        exact ⟨rfl, bel_grow ((hb1.trans (hb2.mono hb1.size)).trans (hb3.mono (Nat.le_trans hb1.size hb2.size))) _⟩

theorem own : ownKnob Tryd.prog.godebug = none := by kernel_rfl
set_option maxRecDepth 100000 in
theorem lifted (os : Os) (started : os.Started) (H : Type) (enc : TypeId × Value → H) :
    ReturnsInHanded {} Tryd.checked os 3 .any (fun w args => (Rows.lexLinesSpec.pre enc Tryd.prog Tryd.f3 [] false w args ∧ laidMetH Tryd.prog Rows.lexLinesRow.laid w) ∧ sizedMet enc Tryd.prog Tryd.f3 (OpenSpec.ofChange Rows.lexLinesSpec) false w args)
      (Rows.lexLinesSpec.post enc Tryd.prog Tryd.f3 false true false false) := by
  refine returnsInHanded_of_calls (C := Tryd.checked) own started (by kernel_rfl)
    (ChangeSpec.witness_shaped (enc := enc) (C := Tryd.checked) (os := os) (X := fun w _ => laidMetH Tryd.prog Rows.lexLinesRow.laid w) false (World.laidAll Tryd.prog os Rows.lexLinesRow.laid) #[.string ByteArray.empty] 12 (World.laidAll_os _ _ _)
      (World.shaped_of_ZipB (by kernel_rfl) (by kernel_rfl)) (by kernel_rfl) (by kernel_rfl) (by kernel_rfl)
      (by rw [MakeChecks.laidMetH_plain _ _ _ (by kernel_rfl)]; exact laidMet_laidAll _ (by kernel_rfl) (by kernel_rfl))) ?_
  rintro w tape ⟨vars, args, fns⟩ _ hsh _ ⟨_, _, _, fn, hfn, _, _, _, _, hval⟩ ⟨⟨⟨ds, gs, before, hw, _⟩, hx⟩, _⟩ _
  obtain rfl := Option.some.inj (Tryd.func3.symm.trans hfn)
  have hW := DataW.Whole.of_heap (w' := w.forCall tape ⟨vars, args, fns⟩) (by rfl) hw
  have hL := laidMetH.of_heap (w' := w.forCall tape ⟨vars, args, fns⟩) (by rfl) hx
  rw [MakeChecks.laidMetH_plain _ _ _ (by kernel_rfl)] at hL
  have ht : Tabs (w.forCall tape ⟨vars, args, fns⟩) := tabs_of (by unfold Rows.lexLinesRow; simp) hL hsh
  generalize w.forCall tape ⟨vars, args, fns⟩ = W at *
  have hW' := hW
  obtain ⟨p, q, hA0, hV, rfl, hfz, hnd⟩ := hW
  have hA : DataW.TrodAll enc Tryd.prog W 0 (fun _ => true) true Tryd.f3.params.toList args.toList ds p := hA0
  rw [Tryd.params3] at hA hval
  obtain ⟨v0, vs0, d0, ds0, p0, q0, hargs, rfl, rfl, h0, r0⟩ := trodAll_cons hA
  obtain ⟨rfl, rfl, rfl⟩ := trodAll_nil r0
  obtain rfl : args = #[v0] := by cases args; simp_all
  obtain ⟨s0, rfl, b0⟩ := open_Str (hval 0 9 v0 rfl rfl) h0
  refine (walk W s0 b0 ht).mono fun e W' ⟨he, hb⟩ => ?_
  subst he
  exact ChangeSpec.post_blind (law_post (tb := 4) (by kernel_rfl) (by kernel_rfl) rfl rfl Tryd.underlying4 rfl rfl rfl hW' hb)

theorem row : Rows.lexLinesRow.holds Tryd.pinned (OpenSpec.ofChange Rows.lexLinesSpec) :=
  OpenClaim.holds_of_wide 3 Tryd.f3 rfl rfl rfl rfl rfl rfl rfl ⟨rfl, rfl, rfl, rfl, rfl⟩ rfl rfl rfl rfl rfl (by kernel_rfl) Tryd.func3 (by kernel_rfl)
    (of_decide_eq_true (by kernel_rfl)) (by unfold Func.isWrapper; first | (rw [if_pos (by decide +kernel)]; kernel_rfl) | (rw [if_neg (by decide +kernel)]; exact ⟨rfl, rfl⟩))
    (fun os started H enc _ => lifted os started H enc)

theorem proved : Rows.LexLinesCardSaid :=
  Claim7.holds_tied_plain_at .later [] [.data, .listed, .data, .pinned] true _ false row (fun _ h => by cases h) (by kernel_rfl) (fun _ h => by cases h) lexLines_row_tie rfl ⟨rfl, rfl⟩ (by kernel_rfl) rfl
    (fun f fn hf hfn => by
      obtain rfl : f = 3 := Option.some.inj ((show Tryd.prog.funcNamed "relievo/relievolaw05.LexLines" = some 3 by kernel_rfl).symm.trans hf) |>.symm
      obtain rfl : fn = Tryd.f3 := (Option.some.inj (Tryd.func3.symm.trans hfn)).symm
      exact ⟨by kernel_rfl, fun j t hj => by
        have hm : t ∈ Tryd.f3.params.toList := by
          have := Array.mem_of_getElem? hj
          simpa using this
        have hall : (Tryd.f3.params.toList.all fun u => !Tryd.prog.wantsStandIn u) = true := by kernel_rfl
        exact (show Tryd.prog.wantsStandIn t = false by simpa using List.all_eq_true.1 hall t hm)⟩)
    (by kernel_rfl)
#print axioms proved
end Go.Proofs.YtkekjeggjaefjaaDoor.lexLines
