/- LexNames holds for every input: the row, out of the walk; the card, tied. No condition but the row's own: the listed tables of the library read as the program's text lays them. -/
import Derived.Test.YtkekjeggjaefjaaDoorRows
import Derived.Test.YtkekjeggjaefjaaDoorCards
import Derived.Test.YtkekjeggjaefjaaDoorTie
import Derived.Test.YtkekjeggjaefjaaDoorTabsOf
import Derived.Test.YtkekjeggjaefjaaDoorOpenS
import Derived.Test.YtkekjeggjaefjaaDoorOpenI
import Derived.Test.YtkekjeggjaefjaaDoorLexS
import Derived.Test.YtkekjeggjaefjaaDoorLex6
import Derived.Test.YtkekjeggjaefjaaDoorPost
import Derived.LaidMore
import Derived.Lay
import Derived.SevenTiedAt
namespace Go.Proofs.YtkekjeggjaefjaaDoor.lexNames
open Go.ChangeShapes Go.WideShapes Go.ChangeAt Go.RowKit
set_option linter.unusedVariables false
set_option linter.unusedSimpArgs false
theorem lines_name (w : World) (s : ByteArray) (hq : nameB s = true) (hs : s.size ≤ 1000) (ht : Tabs w) : Calls Tryd.prog 10 #[.string s] w fun e w' => ∃ g c gw cw, e = .returned (.tuple #[.slice (some ⟨g, 0, none⟩) 1 c, .int .i64 0, .int .i64 0]) ∧ Below w.heap.size w w' ∧ g < w'.heap.size ∧ gw < w'.heap.size ∧ w'.cell? ⟨g, 1, none⟩ = some (.slice (some ⟨gw, 0, none⟩) 1 cw) ∧ w'.cell? ⟨gw, 0, none⟩ = some (.string s) := by
  have k := name_line hq
  refine (lLines_any w s (by omega) ht).mono ?_
  rintro e w' ⟨hb, hp⟩
  rcases lines_run s.data.toList with ⟨n, e1, e2⟩ | ⟨t, e1, e2⟩
  · have e2' : runL st0 (T s ++ [10]) = .error n := e2
    rw [k] at e2'; cases e2'
  · have e2' : runL st0 (T s ++ [10]) = .ok t := e2
    rw [k] at e2'
    injection e2' with e2'
    rw [e1, ← e2'] at hp
    obtain ⟨v, ls, rfl, hL, ho⟩ := hp
    obtain ⟨g, c, gw, cw, rfl, g1, g2, c0, c1, own⟩ := one_line hL (ws := [s.data.toList]) ho
    have c2 := own.cellAt 0 (by simp)
    unfold strs at c2
    simp only [List.map_cons, List.map_nil, List.getElem?_cons_zero] at c2
    exact ⟨g, c, gw, cw, rfl, hb, g1, g2, c1, by simpa using c2⟩
set_option maxHeartbeats 2000000 in
theorem walk (w : World) (s : ByteArray) (hs : s.size ≤ maxLen) (n : Int) (hn : -9223372036854775808 ≤ n ∧ n ≤ 9223372036854775807) (ht : Tabs w) : Calls Tryd.prog 8 #[.string s, .int .i64 n] w fun e w' => e = .returned (.bool true) ∧ Below w.heap.size w w' := by
  have cA := alive5_any w ht
  by_cases h1 : 1000 < s.size
  · have h' : (1000 : Int) < (s.size : Int) := by omega
    go_enter Tryd.func8, Tryd.ntmps8
    go_wp2_with (first | (go_at_call 9; refine cA.mono ?_; rintro e w1 ⟨rfl, hb1⟩))
    go_ret
    exact ⟨rfl, (by repeat (first | with_reducible exact Below.refl _ _ | with_reducible assumption | with_reducible refine bel_then ?_ _ | with_reducible refine bel_grow ?_ _ | with_reducible refine bel_alloc ?_ _ | with_reducible refine bel_drew ?_))⟩
  · have h' : (s.size : Int) ≤ 1000 := by omega
    have c1 := lNum_any s
    have c2 := lName_any s
    cases hq : nameB s
    · rw [hq] at c2
      generalize (numV s).1 = N at *
      generalize (numV s).2 = b at *
      go_enter Tryd.func8, Tryd.ntmps8
      go_wp2_with (first | (go_at_call 9; refine cA.mono ?_; rintro e w1 ⟨rfl, hb1⟩) | (go_at_call 13; refine (c1 _).mono ?_; rintro e _ ⟨rfl, x1, rfl⟩) | (go_at_call 15; refine (c2 _).mono ?_; rintro e _ ⟨rfl, x2, rfl⟩))
      go_ret
      exact ⟨rfl, (by repeat (first | with_reducible exact Below.refl _ _ | with_reducible assumption | with_reducible refine bel_then ?_ _ | with_reducible refine bel_grow ?_ _ | with_reducible refine bel_alloc ?_ _ | with_reducible refine bel_drew ?_))⟩
    · rw [hq] at c2
      have hb := name_num hq
      have hs1 : 1 ≤ s.size := ((name_iff s).1 hq).1.1
      rw [hb] at c1
      generalize (numV s).1 = N at *
      have cL : ∀ w1 : World, Below w.heap.size w w1 → _ := fun w1 hb => lines_name w1 s hq (by omega) (ht.below hb)
      have es : (s.toList == s.toList) = true := by simp
      have cF : ∀ k : Nat, 1 ≤ k → k ≤ s.size → Gives Tryd.prog 15 #[.string (s.extract 0 k)] (.bool true) := fun k a b => by
        have := lName_any (s.extract 0 k)
        rw [name_front hq k a b] at this
        exact this
      clear hb hq
      have hcase : n < 1 ∨ (1 ≤ n ∧ (s.size : Int) < n) ∨ ∃ k : Nat, n = (k : Int) ∧ 1 ≤ k ∧ k ≤ s.size := by
        rcases (by omega : n < 1 ∨ (1 ≤ n ∧ (s.size : Int) < n) ∨ (1 ≤ n ∧ n ≤ (s.size : Int))) with q | q | q
        · exact .inl q
        · exact .inr (.inl q)
        · exact .inr (.inr ⟨n.toNat, by omega, by omega, by omega⟩)
      rcases hcase with q | ⟨q, q2⟩ | ⟨k, rfl, q, q2⟩
      · skip
        go_enter Tryd.func8, Tryd.ntmps8
        go_wp2_with (first | (go_at_call 9; refine cA.mono ?_; rintro e w1 ⟨rfl, hb1⟩) | (go_at_call 13; refine (c1 _).mono ?_; rintro e _ ⟨rfl, x1, rfl⟩) | (go_at_call 15; (with_reducible refine (c2.at_ _).mono ?_); rintro e _ ⟨rfl, x2, rfl⟩; have hbl : Below w.heap.size w (grow w1 (x1.then x2)) := bel_grow (bel_grow hb1 x1) x2) | (go_at_call 10; refine (cL _ hbl).mono ?_; rintro e w4 ⟨g, c, gw, cw, rfl, hb4, g1, g2, d1, d2⟩) | fail)
        go_ret
        exact ⟨rfl, hbl.trans (hb4.mono hbl.size)⟩
      · skip
        go_enter Tryd.func8, Tryd.ntmps8
        go_wp2_with (first | (go_at_call 9; refine cA.mono ?_; rintro e w1 ⟨rfl, hb1⟩) | (go_at_call 13; refine (c1 _).mono ?_; rintro e _ ⟨rfl, x1, rfl⟩) | (go_at_call 15; (with_reducible refine (c2.at_ _).mono ?_); rintro e _ ⟨rfl, x2, rfl⟩; have hbl : Below w.heap.size w (grow w1 (x1.then x2)) := bel_grow (bel_grow hb1 x1) x2) | (go_at_call 10; refine (cL _ hbl).mono ?_; rintro e w4 ⟨g, c, gw, cw, rfl, hb4, g1, g2, d1, d2⟩) | fail)
        go_ret
        exact ⟨rfl, hbl.trans (hb4.mono hbl.size)⟩
      · have cK := cF k q q2
        have q3 : (1 : Int) ≤ (k : Int) := by omega
        have q4 : (k : Int) ≤ (s.size : Int) := by omega
        clear cF
        go_enter Tryd.func8, Tryd.ntmps8
        go_wp2_with (first | (go_at_call 9; refine cA.mono ?_; rintro e w1 ⟨rfl, hb1⟩) | (go_at_call 13; refine (c1 _).mono ?_; rintro e _ ⟨rfl, x1, rfl⟩) | (go_at_call 15; (with_reducible refine (c2.at_ _).mono ?_); rintro e _ ⟨rfl, x2, rfl⟩; have hbl : Below w.heap.size w (grow w1 (x1.then x2)) := bel_grow (bel_grow hb1 x1) x2) | (go_at_call 10; refine (cL _ hbl).mono ?_; rintro e w4 ⟨g, c, gw, cw, rfl, hb4, g1, g2, d1, d2⟩) | (go_at_call 15; (with_reducible refine (cK.at_ _).mono ?_); rintro e _ ⟨rfl, x5, rfl⟩))
        go_ret
        exact ⟨rfl, bel_grow (hbl.trans (hb4.mono hbl.size)) _⟩

theorem own : ownKnob Tryd.prog.godebug = none := by kernel_rfl
set_option maxRecDepth 100000 in
theorem lifted (os : Os) (started : os.Started) (H : Type) (enc : TypeId × Value → H) :
    ReturnsInHanded {} Tryd.checked os 8 .any (fun w args => (Rows.lexNamesSpec.pre enc Tryd.prog Tryd.f8 [] false w args ∧ laidMetH Tryd.prog Rows.lexNamesRow.laid w) ∧ sizedMet enc Tryd.prog Tryd.f8 (OpenSpec.ofChange Rows.lexNamesSpec) false w args)
      (Rows.lexNamesSpec.post enc Tryd.prog Tryd.f8 false true false false) := by
  refine returnsInHanded_of_calls (C := Tryd.checked) own started (by kernel_rfl)
    (ChangeSpec.witness_shaped (enc := enc) (C := Tryd.checked) (os := os) (X := fun w _ => laidMetH Tryd.prog Rows.lexNamesRow.laid w) false (World.laidAll Tryd.prog os Rows.lexNamesRow.laid) #[.string ByteArray.empty, .int .i64 0] 12 (World.laidAll_os _ _ _)
      (World.shaped_of_ZipB (by kernel_rfl) (by kernel_rfl)) (by kernel_rfl) (by kernel_rfl) (by kernel_rfl)
      (by rw [MakeChecks.laidMetH_plain _ _ _ (by kernel_rfl)]; exact laidMet_laidAll _ (by kernel_rfl) (by kernel_rfl))) ?_
  rintro w tape ⟨vars, args, fns⟩ _ hsh _ ⟨_, _, _, fn, hfn, _, _, _, _, hval⟩ ⟨⟨⟨ds, gs, before, hw, _⟩, hx⟩, _⟩ _
  obtain rfl := Option.some.inj (Tryd.func8.symm.trans hfn)
  have hW := DataW.Whole.of_heap (w' := w.forCall tape ⟨vars, args, fns⟩) (by rfl) hw
  have hL := laidMetH.of_heap (w' := w.forCall tape ⟨vars, args, fns⟩) (by rfl) hx
  rw [MakeChecks.laidMetH_plain _ _ _ (by kernel_rfl)] at hL
  have ht : Tabs (w.forCall tape ⟨vars, args, fns⟩) := tabs_of (by unfold Rows.lexNamesRow; simp) hL hsh
  generalize w.forCall tape ⟨vars, args, fns⟩ = W at *
  have hW' := hW
  obtain ⟨p, q, hA0, hV, rfl, hfz, hnd⟩ := hW
  have hA : DataW.TrodAll enc Tryd.prog W 0 (fun _ => true) true Tryd.f8.params.toList args.toList ds p := hA0
  rw [Tryd.params8] at hA hval
  obtain ⟨v0, vs0, d0, ds0, p0, q0, hargs, rfl, rfl, h0, r0⟩ := trodAll_cons hA
  obtain ⟨v1, vs1, d1, ds1, p1, q1, rfl, rfl, rfl, h1, r1⟩ := trodAll_cons r0
  obtain ⟨rfl, rfl, rfl⟩ := trodAll_nil r1
  obtain rfl : args = #[v0, v1] := by cases args; simp_all
  obtain ⟨s0, rfl, b0⟩ := open_Str (hval 0 9 v0 rfl rfl) h0
  obtain ⟨a1, rfl, b1⟩ := open_int64 (hval 1 3 v1 rfl rfl) h1
  refine (walk W s0 b0 a1 b1 ht).mono fun e W' ⟨he, hb⟩ => ?_
  subst he
  exact ChangeSpec.post_blind (law_post (tb := 4) (by kernel_rfl) (by kernel_rfl) rfl rfl Tryd.underlying4 rfl rfl rfl hW' hb)

theorem row : Rows.lexNamesRow.holds Tryd.pinned (OpenSpec.ofChange Rows.lexNamesSpec) :=
  OpenClaim.holds_of_wide 8 Tryd.f8 rfl rfl rfl rfl rfl rfl rfl ⟨rfl, rfl, rfl, rfl, rfl⟩ rfl rfl rfl rfl rfl (by kernel_rfl) Tryd.func8 (by kernel_rfl)
    (of_decide_eq_true (by kernel_rfl)) (by unfold Func.isWrapper; first | (rw [if_pos (by decide +kernel)]; kernel_rfl) | (rw [if_neg (by decide +kernel)]; exact ⟨rfl, rfl⟩))
    (fun os started H enc _ => lifted os started H enc)

theorem proved : Rows.LexNamesCardSaid :=
  Claim7.holds_tied_plain_at .later [] [.data, .listed, .data, .pinned] true _ false row (fun _ h => by cases h) (by kernel_rfl) (fun _ h => by cases h) lexNames_row_tie rfl ⟨rfl, rfl⟩ (by kernel_rfl) rfl
    (fun f fn hf hfn => by
      obtain rfl : f = 8 := Option.some.inj ((show Tryd.prog.funcNamed "relievo/relievolaw05.LexNames" = some 8 by kernel_rfl).symm.trans hf) |>.symm
      obtain rfl : fn = Tryd.f8 := (Option.some.inj (Tryd.func8.symm.trans hfn)).symm
      exact ⟨by kernel_rfl, fun j t hj => by
        have hm : t ∈ Tryd.f8.params.toList := by
          have := Array.mem_of_getElem? hj
          simpa using this
        have hall : (Tryd.f8.params.toList.all fun u => !Tryd.prog.wantsStandIn u) = true := by kernel_rfl
        exact (show Tryd.prog.wantsStandIn t = false by simpa using List.all_eq_true.1 hall t hm)⟩)
    (by kernel_rfl)
#print axioms proved
end Go.Proofs.YtkekjeggjaefjaaDoor.lexNames
