/- LexBlanks holds for every input: the row, out of the walk; the card, tied. No condition but the row's own: the listed tables of the library read as the program's text lays them. -/
import Derived.Test.YtkekjeggjaefjaaDoorRows
import Derived.Test.YtkekjeggjaefjaaDoorCards
import Derived.Test.YtkekjeggjaefjaaDoorTie
import Derived.Test.YtkekjeggjaefjaaDoorTabsOf
import Derived.Test.YtkekjeggjaefjaaDoorOpenS
import Derived.Test.YtkekjeggjaefjaaDoorLexS
import Derived.Test.YtkekjeggjaefjaaDoorLexR2
import Derived.Test.YtkekjeggjaefjaaDoorPost
import Derived.LaidMore
import Derived.Lay
import Derived.SevenTiedAt
namespace Go.Proofs.YtkekjeggjaefjaaDoor.lexBlanks
open Go.ChangeShapes Go.WideShapes Go.ChangeAt Go.RowKit
set_option linter.unusedVariables false
set_option linter.unusedSimpArgs false
theorem nb_cat (s r : ByteArray) : nb ((s ++ (⟨#[32, 32, 35]⟩ : ByteArray) ++ r).data.toList) ++ [10] = nb s.data.toList ++ ([32, 32, 35] ++ nb r.data.toList ++ [10]) := by
  have h : (s ++ (⟨#[32, 32, 35]⟩ : ByteArray) ++ r).data.toList = s.data.toList ++ [32, 32, 35] ++ r.data.toList := by simp
  rw [h, nb_app, nb_app]
  have e : nb [32, 32, 35] = [32, 32, 35] := rfl
  rw [e]
  simp
theorem blanks_run (s r : ByteArray) (hr : plainL r.data.toList) : (∃ n, linesP 1 [] (spl s.data.toList) = .error n ∧ linesP 1 [] (spl (s ++ (⟨#[32, 32, 35]⟩ : ByteArray) ++ r).data.toList) = .error n) ∨ ∃ o, linesP 1 [] (spl s.data.toList) = .ok o ∧ linesP 1 [] (spl (s ++ (⟨#[32, 32, 35]⟩ : ByteArray) ++ r).data.toList) = .ok o := by
  have hr' : ∀ c ∈ nb r.data.toList, 32 ≤ c ∧ c ≤ 126 := fun c hc => by
    unfold nb at hc
    obtain ⟨x, hx, rfl⟩ := List.mem_map.1 hc
    exact hr x hx
  have k := runL_blanks (nb s.data.toList) (nb r.data.toList) hr'
  rw [← nb_cat] at k
  rcases lines_run s.data.toList with ⟨n, e1, e2⟩ | ⟨t, e1, e2⟩
  · rcases lines_run (s ++ (⟨#[32, 32, 35]⟩ : ByteArray) ++ r).data.toList with ⟨m, f1, f2⟩ | ⟨u, f1, f2⟩
    · rw [f2, e2] at k
      injection k with k
      exact .inl ⟨n, e1, by rw [f1, k]⟩
    · rw [f2, e2] at k; cases k
  · rcases lines_run (s ++ (⟨#[32, 32, 35]⟩ : ByteArray) ++ r).data.toList with ⟨m, f1, f2⟩ | ⟨u, f1, f2⟩
    · rw [f2, e2] at k; cases k
    · rw [f2, e2] at k
      injection k with k
      exact .inr ⟨_, e1, by rw [f1, k]⟩
set_option maxHeartbeats 2000000 in
theorem walk (w : World) (s : ByteArray) (hs : s.size ≤ maxLen) (r : ByteArray) (hr : r.size ≤ maxLen) (ht : Tabs w) : Calls Tryd.prog 7 #[.string s, .string r] w fun e w' => e = .returned (.bool true) ∧ Below w.heap.size w w' := by
  have cA := alive5_any w ht
  by_cases h1 : 3000 < s.size
  · have h' : (3000 : Int) < (s.size : Int) := by omega
    go_enter Tryd.func7, Tryd.ntmps7
    go_wp2_with (first | (go_at_call 9; refine cA.mono ?_; rintro e w1 ⟨rfl, hb1⟩))
    go_ret
    exact ⟨rfl, (by repeat (first | with_reducible exact Below.refl _ _ | with_reducible assumption | with_reducible refine bel_then ?_ _ | with_reducible refine bel_grow ?_ _ | with_reducible refine bel_alloc ?_ _ | with_reducible refine bel_drew ?_))⟩
  by_cases h2 : 3000 < r.size
  · have h' : (3000 : Int) < (r.size : Int) := by omega
    have h'' : (s.size : Int) ≤ 3000 := by omega
    go_enter Tryd.func7, Tryd.ntmps7
    go_wp2_with (first | (go_at_call 9; refine cA.mono ?_; rintro e w1 ⟨rfl, hb1⟩))
    go_ret
    exact ⟨rfl, (by repeat (first | with_reducible exact Below.refl _ _ | with_reducible assumption | with_reducible refine bel_then ?_ _ | with_reducible refine bel_grow ?_ _ | with_reducible refine bel_alloc ?_ _ | with_reducible refine bel_drew ?_))⟩
  have h' : (s.size : Int) ≤ 3000 := by omega
  have h'' : (r.size : Int) ≤ 3000 := by omega
  have hcs : (s ++ (⟨#[32, 32, 35]⟩ : ByteArray) ++ r).size = s.size + 3 + r.size := by simp [ByteArray.size_append]; rfl
  go_enter Tryd.func7, Tryd.ntmps7
  go_wp2_with (first | (go_at_call 9; refine cA.mono ?_; rintro e w1 ⟨rfl, hb1⟩))
  go_loop [5] (fun i => ∃ k : Nat, k ≤ r.size ∧ i = .int .i64 (k : Int) ∧ Hid (allAt plAt r k = true)) (fun i => r.size - (intOf i).toNat)
  case atStart => exact ⟨0, Nat.zero_le _, rfl, Lib.hid rfl⟩
  case round =>
    obtain ⟨k, hk, rfl, hall⟩ := hrel
    by_cases hlt : k < r.size
    · have e := bt_at r k hlt
      have lt := bt_lt r k
      have ON := Lib.hid (show ∀ q, plAt k (bt r k) = q → allAt plAt r (k + 1) = q from fun q hq => by unfold allAt; rw [hall.out, hq]; rfl)
      replace e := Lib.hid e
      go_wp2
      all_goals
        have e := e.out
        first
        | (exfalso
           simp only [Bool.not_eq_true', Bool.not_eq_false', decide_eq_true_eq, decide_eq_false_iff_not, beq_iff_eq, beq_eq_false_iff_ne, ne_eq] at *
           omega)
        | (go_round
           case rel => exact ⟨k + 1, by omega, by go_num, Lib.hid (ON.out true ((plAt_iff k (bt r k)).2 (by (try simp only [beq_iff_eq, beq_eq_false_iff_ne, ne_eq] at *); omega)))⟩
           case measure => simp [intOf] <;> omega)
        | (go_ret
           exact ⟨rfl, (by repeat (first | with_reducible exact Below.refl _ _ | with_reducible assumption | with_reducible refine bel_then ?_ _ | with_reducible refine bel_grow ?_ _ | with_reducible refine bel_alloc ?_ _ | with_reducible refine bel_drew ?_))⟩)
    · obtain rfl : k = r.size := by omega
      have hpl : plainL r.data.toList := by
        have k2 := plain_dec r
        rw [hall.out] at k2
        exact of_decide_eq_true k2.symm
      have hs1 : s.size ≤ 65536 := by omega
      have hs2 : (s ++ (⟨#[32, 32, 35]⟩ : ByteArray) ++ r).size ≤ 65536 := by omega
      have cL1 := fun (w1 : World) (hb : Below w.heap.size w w1) => lLines_any w1 s hs1 (ht.below hb)
      have cL2 := fun (w1 : World) (hb : Below w.heap.size w w1) => lLines_any w1 (s ++ (⟨#[32, 32, 35]⟩ : ByteArray) ++ r) hs2 (ht.below hb)
      rcases blanks_run s r hpl with ⟨n, e1, e2⟩ | ⟨t, e1, e2⟩
      · clear hall
        go_wp2_with (first | (go_at_call 10; (with_reducible refine (cL1 _ hb1).mono ?_); rintro e w2 ⟨hb2, hp⟩; rw [e1] at hp; replace hp : e = .returned (.tuple #[.slice none 0 0, .int .i64 (n : Int), .int .i64 10]) := hp; subst hp) | (go_at_call 10; (with_reducible refine (cL2 _ (hb1.trans (hb2.mono hb1.size))).mono ?_); rintro e w3 ⟨hb3, hp⟩; rw [e2] at hp; replace hp : e = .returned (.tuple #[.slice none 0 0, .int .i64 (n : Int), .int .i64 10]) := hp; subst hp) | (go_at_call 12; refine (sameL_nil _ none none 0 0).mono ?_; rintro e _ ⟨rfl, x3, rfl⟩))
        go_ret
        exact ⟨rfl, bel_grow ((hb1.trans (hb2.mono hb1.size)).trans (hb3.mono (Nat.le_trans hb1.size hb2.size))) _⟩
      · have hPn : t.length ≤ 65537 := by
          have k1 := linesP_len _ _ _ _ e1
          have k2 := spl_len s.data.toList
          simp at k1 k2
          omega
        clear hall
        go_wp2_with (first | (go_at_call 10; (with_reducible refine (cL1 _ hb1).mono ?_); rintro e w2 ⟨hb2, hp⟩; rw [e1] at hp; obtain ⟨v1, ls1, rfl, hL1, ho1⟩ := hp) | (go_at_call 10; (with_reducible refine (cL2 _ (hb1.trans (hb2.mono hb1.size))).mono ?_); rintro e w3 ⟨hb3, hp⟩; rw [e2] at hp; obtain ⟨v2, ls2, rfl, hL2, ho2⟩ := hp) | (go_at_call 12; refine (same_LNS _ (hL1.below hb3) hL2 (ho1.trans ho2.symm) (by have k := congrArg List.length ho1; unfold outOf at k; simp at k; omega)).mono ?_; rintro e _ ⟨rfl, x3, rfl⟩))
        go_ret
        exact ⟨rfl, bel_grow ((hb1.trans (hb2.mono hb1.size)).trans (hb3.mono (Nat.le_trans hb1.size hb2.size))) _⟩

theorem own : ownKnob Tryd.prog.godebug = none := by kernel_rfl
set_option maxRecDepth 100000 in
theorem lifted (os : Os) (started : os.Started) (H : Type) (enc : TypeId × Value → H) :
    ReturnsInHanded {} Tryd.checked os 7 .any (fun w args => (Rows.lexBlanksSpec.pre enc Tryd.prog Tryd.f7 [] false w args ∧ laidMetH Tryd.prog Rows.lexBlanksRow.laid w) ∧ sizedMet enc Tryd.prog Tryd.f7 (OpenSpec.ofChange Rows.lexBlanksSpec) false w args)
      (Rows.lexBlanksSpec.post enc Tryd.prog Tryd.f7 false true false false) := by
  refine returnsInHanded_of_calls (C := Tryd.checked) own started (by kernel_rfl)
    (ChangeSpec.witness_shaped (enc := enc) (C := Tryd.checked) (os := os) (X := fun w _ => laidMetH Tryd.prog Rows.lexBlanksRow.laid w) false (World.laidAll Tryd.prog os Rows.lexBlanksRow.laid) #[.string ByteArray.empty, .string ByteArray.empty] 12 (World.laidAll_os _ _ _)
      (World.shaped_of_ZipB (by kernel_rfl) (by kernel_rfl)) (by kernel_rfl) (by kernel_rfl) (by kernel_rfl)
      (by rw [MakeChecks.laidMetH_plain _ _ _ (by kernel_rfl)]; exact laidMet_laidAll _ (by kernel_rfl) (by kernel_rfl))) ?_
  rintro w tape ⟨vars, args, fns⟩ _ hsh _ ⟨_, _, _, fn, hfn, _, _, _, _, hval⟩ ⟨⟨⟨ds, gs, before, hw, _⟩, hx⟩, _⟩ _
  obtain rfl := Option.some.inj (Tryd.func7.symm.trans hfn)
  have hW := DataW.Whole.of_heap (w' := w.forCall tape ⟨vars, args, fns⟩) (by rfl) hw
  have hL := laidMetH.of_heap (w' := w.forCall tape ⟨vars, args, fns⟩) (by rfl) hx
  rw [MakeChecks.laidMetH_plain _ _ _ (by kernel_rfl)] at hL
  have ht : Tabs (w.forCall tape ⟨vars, args, fns⟩) := tabs_of (by unfold Rows.lexBlanksRow; simp) hL hsh
  generalize w.forCall tape ⟨vars, args, fns⟩ = W at *
  have hW' := hW
  obtain ⟨p, q, hA0, hV, rfl, hfz, hnd⟩ := hW
  have hA : DataW.TrodAll enc Tryd.prog W 0 (fun _ => true) true Tryd.f7.params.toList args.toList ds p := hA0
  rw [Tryd.params7] at hA hval
  obtain ⟨v0, vs0, d0, ds0, p0, q0, hargs, rfl, rfl, h0, r0⟩ := trodAll_cons hA
  obtain ⟨v1, vs1, d1, ds1, p1, q1, rfl, rfl, rfl, h1, r1⟩ := trodAll_cons r0
  obtain ⟨rfl, rfl, rfl⟩ := trodAll_nil r1
  obtain rfl : args = #[v0, v1] := by cases args; simp_all
  obtain ⟨s0, rfl, b0⟩ := open_Str (hval 0 9 v0 rfl rfl) h0
  obtain ⟨s1, rfl, b1⟩ := open_Str (hval 1 9 v1 rfl rfl) h1
  refine (walk W s0 b0 s1 b1 ht).mono fun e W' ⟨he, hb⟩ => ?_
  subst he
  exact ChangeSpec.post_blind (law_post (tb := 4) (by kernel_rfl) (by kernel_rfl) rfl rfl Tryd.underlying4 rfl rfl rfl hW' hb)

theorem row : Rows.lexBlanksRow.holds Tryd.pinned (OpenSpec.ofChange Rows.lexBlanksSpec) :=
  OpenClaim.holds_of_wide 7 Tryd.f7 rfl rfl rfl rfl rfl rfl rfl ⟨rfl, rfl, rfl, rfl, rfl⟩ rfl rfl rfl rfl rfl (by kernel_rfl) Tryd.func7 (by kernel_rfl)
    (of_decide_eq_true (by kernel_rfl)) (by unfold Func.isWrapper; first | (rw [if_pos (by decide +kernel)]; kernel_rfl) | (rw [if_neg (by decide +kernel)]; exact ⟨rfl, rfl⟩))
    (fun os started H enc _ => lifted os started H enc)

theorem proved : Rows.LexBlanksCardSaid :=
  Claim7.holds_tied_plain_at .later [] [.data, .listed, .data, .pinned] true _ false row (fun _ h => by cases h) (by kernel_rfl) (fun _ h => by cases h) lexBlanks_row_tie rfl ⟨rfl, rfl⟩ (by kernel_rfl) rfl
    (fun f fn hf hfn => by
      obtain rfl : f = 7 := Option.some.inj ((show Tryd.prog.funcNamed "relievo/relievolaw05.LexBlanks" = some 7 by kernel_rfl).symm.trans hf) |>.symm
      obtain rfl : fn = Tryd.f7 := (Option.some.inj (Tryd.func7.symm.trans hfn)).symm
      exact ⟨by kernel_rfl, fun j t hj => by
        have hm : t ∈ Tryd.f7.params.toList := by
          have := Array.mem_of_getElem? hj
          simpa using this
        have hall : (Tryd.f7.params.toList.all fun u => !Tryd.prog.wantsStandIn u) = true := by kernel_rfl
        exact (show Tryd.prog.wantsStandIn t = false by simpa using List.all_eq_true.1 hall t hm)⟩)
    (by kernel_rfl)
#print axioms proved
end Go.Proofs.YtkekjeggjaefjaaDoor.lexBlanks
