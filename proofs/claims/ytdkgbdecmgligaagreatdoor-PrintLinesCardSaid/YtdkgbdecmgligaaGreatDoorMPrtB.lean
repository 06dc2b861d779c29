/- The program's writer: numbers, each as a word. -/
import Derived.Test.YtdkgbdecmgligaaGreatDoorMPrtA
import Derived.Test.YtdkgbdecmgligaaGreatDoorMPrtM
import Derived.Test.YtdkgbdecmgligaaGreatDoorMRegion
import Derived.Great.BuildSlice
import Derived.Deep.MidRow
namespace Go.Proofs.YtdkgbdecmgligaaGreatDoor
open Go.RowKit
set_option linter.unusedVariables false
set_option linter.unusedSimpArgs false
set_option linter.unnecessarySimpa false
/-- Numbers are shown by the library, in whatever world keeps what is below the base. -/
def ItoaOk (base : Nat) (W : World) : Prop := ∀ n : Int, -9223372036854775808 ≤ n ∧ n ≤ 9223372036854775807 → ∀ W', Below base W W' → Calls Tryz.prog 92 #[.int .i64 n] W' fun e w' => e = .returned (.string ⟨(shW n).toArray⟩) ∧ ∃ x, w' = grow W' x
theorem ItoaOk.frb {base : Nat} {W W1 : World} (h : ItoaOk base W) (hf : FrB base W W1) : ItoaOk base W1 := fun n hn W' hb => h n hn W' (hf.1.trans hb)
theorem sh_i64 {n : Int} (hn : -9223372036854775808 ≤ n ∧ n ≤ 9223372036854775807) : (shW n).length ≤ 1000000 := by
  have := sh_len n 19 (by omega)
  split at this <;> omega
theorem jn_one (w : Wd) : jn [w] = 32 :: w := by unfold jn; simp
set_option maxRecDepth 100000 in
set_option maxHeartbeats 1000000 in
theorem num1_any {base g k : Nat} {n : Int} {W : World} {st : Option (List UInt8)} (hn : -9223372036854775808 ≤ n ∧ n ≤ 9223372036854775807) (hI : ItoaOk base W) (hk : Blk W k 81 #[.pointer (some ⟨g, 0, none⟩)]) (h : WX base g W st) :
    Calls Tryz.prog 91 #[.int .i64 n, .pointer (some ⟨k, 0, none⟩)] W fun e W' => e = .returned (.tuple #[]) ∧ WX base g W' (addT st (32 :: shW n)) ∧ FrB base W W' := by
  have hbs : base ≤ W.heap.size := by
    obtain ⟨l, ov, hw, _⟩ := h
    exact Nat.le_of_lt (Nat.lt_of_le_of_lt hw.le hw.lt)
  go_enter Tryz.func91, Tryz.ntmps91
  refine wp_region_held (S := fun w' => w'.cell? ⟨k, 0, none⟩ = some (.pointer (some ⟨g, 0, none⟩))) (by kernel_rfl) ?_
  refine anyH_letter (fun V9 hV9 => ?_)
  have hB9 : Below W.heap.size W V9 := by rw [hV9]; exact bel_dr (Below.refl _ _) _
  clear hV9
  have hk9 := hk.below hB9
  refine wpAnyH_take (i := 0) (v := .pointer (some ⟨g, 0, none⟩)) rfl (by kernel_rfl) (by kernel_rfl) (by kernel_rfl) (fun _ _ _ h => h) (.inl ⟨rfl, fun w hS => by simp [execOp, go_sem, Act.put, hS]⟩) (hk9.cell 0) ?_
  refine wpAnyH_take (i := 1) (v := .int .i64 n) rfl (by kernel_rfl) (by kernel_rfl) (by kernel_rfl) (fun _ _ _ h => h) (.inl ⟨rfl, fun w hS => by simp [execOp, go_sem, Act.put]⟩) (hk9.cell 0) ?_
  refine wpAnyH_forced (i := 2) (by kernel_rfl) rfl rfl ?_
  refine wp_enter (f := 92) (args := #[.int .i64 n]) (w' := V9) (R := fun v w2 => v = .string ⟨(shW n).toArray⟩ ∧ Below V9.heap.size V9 w2) (by simp [execOp, go_sem, Act.put]) ?_ ?_
  · refine (hI n hn V9 (hB9.mono hbs)).mono ?_
    rintro e w' ⟨rfl, x, rfl⟩
    exact ⟨_, rfl, rfl, bel_grow (Below.refl _ _) _⟩
  rintro v2 V2 ⟨rfl, hB2⟩
  have hk2 := hk9.below hB2
  refine ⟨hk2.cell 0, ?_⟩
  refine wpAnyH_forced (i := 3) (by kernel_rfl) rfl rfl ?_
  refine wp_value (v := .slice (some ⟨V2.heap.size, 0, none⟩) 1 1) (w' := V2.alloc (.cells #[.string ⟨(shW n).toArray⟩] 9)) (by simp [execOp, go_sem, Act.put]) ?_
  have hB3 : Below V2.heap.size V2 (V2.alloc (.cells #[.string ⟨(shW n).toArray⟩] 9)) := bel_alloc (Below.refl _ _) _
  have K3 : Blk (V2.alloc (.cells #[.string ⟨(shW n).toArray⟩] 9)) V2.heap.size 9 #[.string ⟨(shW n).toArray⟩] := Blk.new _ _ _ _ rfl
  have hk3 := hk2.below hB3
  have hW3 : Below W.heap.size W (V2.alloc (.cells #[.string ⟨(shW n).toArray⟩] 9)) := bel_trans (bel_trans hB9 hB2) hB3
  refine ⟨hk3.cell 0, ?_⟩
  generalize V2.alloc (.cells #[.string ⟨(shW n).toArray⟩] 9) = V3 at *
  have hX3 := h.below hW3
  refine wpAnyH_forced (i := 4) (by kernel_rfl) rfl rfl ?_
  refine wp_enter (f := 60) (args := #[.pointer (some ⟨g, 0, none⟩), .slice (some ⟨V2.heap.size, 0, none⟩) 1 1]) (w' := V3) (R := fun v w2 => v = .tuple #[] ∧ WX base g w2 (addT st (jn [shW n])) ∧ FrB base V3 w2) (by simp [execOp, go_sem, Act.put]) ?_ ?_
  · refine (words_any [shW n] rfl (fun w hw => by simp at hw; subst hw; exact sh_i64 hn) (by simp) (fun _ => ⟨V2.heap.size, 0, _, rfl, K3, fun i hi => by
      have : i = 0 := by simp at hi; omega
      subst this; rfl⟩) hX3).mono ?_
    rintro e w' ⟨rfl, h1, h2⟩
    exact ⟨_, rfl, rfl, h1, h2⟩
  rintro v4 V4 ⟨rfl, hX4, hF4⟩
  refine ⟨(hF4.blk hk3 (by decide) (by decide)).cell 0, ?_⟩
  refine wpAnyH_done (by kernel_rfl) ?_ _
  go_wp2_with fail
  go_end0
  rw [← jn_one]
  exact ⟨rfl, hX4, (FrB.of hbs hW3).trans hF4⟩
/-- A block that the writing leaves as it is: it was there ahead of the call, or it is of another type. -/
def Kp (base : Nat) (W : World) (b : Nat) : Prop := b < W.heap.size ∧ (b < base ∨ ∃ (T : TypeId) (cs : Array Value), Blk W b T cs ∧ T ≠ 5 ∧ T ≠ 61)
theorem Kp.eq {base : Nat} {W W1 : World} {b : Nat} (h : Kp base W b) (hf : FrB base W W1) : W1.heap[b]? = W.heap[b]? := by
  rcases h.2 with q | ⟨T, cs, q1, q2, q3⟩
  · exact hf.1.block b q
  · exact hf.2 b cs T q1 q2 q3
theorem Kp.frb {base : Nat} {W W1 : World} {b : Nat} (h : Kp base W b) (hf : FrB base W W1) : Kp base W1 b := by
  refine ⟨?_, ?_⟩
  · have e := h.eq hf
    rcases Nat.lt_or_ge b W1.heap.size with q | q
    · exact q
    · rw [Array.getElem?_eq_none q] at e
      exact absurd (Array.getElem?_eq_none_iff.1 e.symm) (by have := h.1; omega)
  · rcases h.2 with q | ⟨T, cs, q1, q2, q3⟩
    · exact .inl q
    · exact .inr ⟨T, cs, hf.blk q1 q2 q3, q2, q3⟩
theorem Kp.cell {base : Nat} {W W1 : World} {b : Nat} (h : Kp base W b) (hf : FrB base W W1) (i : Nat) : W1.cell? ⟨b, i, none⟩ = W.cell? ⟨b, i, none⟩ := by
  unfold World.cell?
  simp only [h.eq hf]
theorem Kp.of {base : Nat} {W : World} {b : Nat} {T : TypeId} {cs : Array Value} (h : Blk W b T cs) (h1 : T ≠ 5) (h2 : T ≠ 61) : Kp base W b := ⟨h.lt, .inr ⟨T, cs, h, h1, h2⟩⟩
/-- A row of numbers. -/
def NFB (base : Nat) (W : World) (A : Option Addr) (ns : List Int) : Prop := 0 < ns.length → ∃ b off, A = some ⟨b, off, none⟩ ∧ Kp base W b ∧ ∀ i (h : i < ns.length), W.cell? ⟨b, off + i, none⟩ = some (.int .i64 ns[i])
theorem NFB.frb {base : Nat} {W W1 : World} {A : Option Addr} {ns : List Int} (h : NFB base W A ns) (hf : FrB base W W1) : NFB base W1 A ns := fun h0 => by
  obtain ⟨b, off, e, hb, hc⟩ := h h0
  exact ⟨b, off, e, hb.frb hf, fun i hi => (hb.cell hf _).trans (hc i hi)⟩
def i64L (ns : List Int) : Prop := ∀ x ∈ ns, -9223372036854775808 ≤ x ∧ x ≤ 9223372036854775807
theorem WX.over? {base g : Nat} {W : World} {st : Option (List UInt8)} (h : WX base g W st) : ∃ ov, W.cell? ⟨g, 2, none⟩ = some (.bool ov) ∧ g < W.heap.size ∧ (ov = true → st = none) := by
  obtain ⟨l, ov, hw, hl, rfl⟩ := h
  refine ⟨ov, hw.c2, hw.lt, fun e => by subst e; rfl⟩
theorem jn_nums {ns : List Int} {k : Nat} (h : k < ns.length) : jn ((ns.take (k + 1)).map shW) = jn ((ns.take k).map shW) ++ (32 :: shW ns[k]) := by
  rw [List.take_succ_eq_append_getElem h, List.map_append, jn_app]
  unfold jn; simp
theorem jn_split (ns : List Int) (k : Nat) : jn (ns.map shW) = jn ((ns.take k).map shW) ++ jn ((ns.drop k).map shW) := by
  rw [← jn_app, ← List.map_append, List.take_append_drop]
set_option maxRecDepth 100000 in
set_option maxHeartbeats 1000000 in
theorem each_int {base g k n c : Nat} {A : Option Addr} {W : World} {st : Option (List UInt8)} (ns : List Int) (hn : ns.length = n) (hns : i64L ns) (hm : n ≤ 1048576) (hI : ItoaOk base W) (hk : Blk W k 81 #[.pointer (some ⟨g, 0, none⟩)]) (hA : NFB base W A ns) (h : WX base g W st) :
    Calls Tryz.prog 90 #[.pointer (some ⟨g, 0, none⟩), .slice A n c, .func (Fn.func 91) #[] #[.pointer (some ⟨k, 0, none⟩)]] W fun e W' => e = .returned (.tuple #[]) ∧ WX base g W' (addT st (jn (ns.map shW))) ∧ FrB base W W' := by
  go_enter Tryz.func90, Tryz.ntmps90
  go_wp2_with fail
  go_loopw [10] (fun i wr => ∃ (j : Nat), i = .int .i64 (j : Int) ∧ j ≤ n ∧ Hid (WX base g wr (addT st (jn ((ns.take j).map shW)))) ∧ Hid (FrB base W wr)) (fun i _ => n - (intOf i).toNat)
  case atStart => exact ⟨0, rfl, by omega, Lib.hid (by have e : addT st (jn ((ns.take 0).map shW)) = st := h.nil; rw [e]; exact h), Lib.hid (FrB.refl _ _)⟩
  case round =>
    obtain ⟨j, rfl, hj, hX, hF⟩ := hrel
    by_cases hlt : j < n
    · have hlw : j < ns.length := by omega
      obtain ⟨b, off, rfl, hb, hc⟩ := (hA.frb hF.out) (by omega)
      have d0 : wr.cell? ⟨b, off + j, none⟩ = some (.int .i64 ns[j]) := hc j hlw
      have k0 : (0 : Int) ≤ (j : Int) := by omega
      have k1 : (j : Int) < (n : Int) := by omega
      have hbl := hb.1
      obtain ⟨ov, o1, o2, o3⟩ := hX.out.over?
      have C1 := Lib.hid (num1_any (hns ns[j] (List.getElem_mem hlw)) (hI.frb hF.out) (hF.out.blk hk (by decide) (by decide)) hX.out)
      have HE := Lib.hid (show addT (addT st (jn ((ns.take j).map shW))) (32 :: shW ns[j]) = addT st (jn ((ns.take (j + 1)).map shW)) by rw [addT_assoc, jn_nums hlw])
      have HZ := Lib.hid (show ov = true → addT st (jn (ns.map shW)) = addT st (jn ((ns.take j).map shW)) from fun e => by
        rw [jn_split ns j, ← addT_assoc, o3 e]; rfl)
      clear hc hb hA o3
      generalize ns[j] = wk at *
      cases ov
      · go_wp2_with (go_at_call 91; (with_reducible refine Calls.mono C1.out ?_); rintro e W1 ⟨rfl, hX1, hF1⟩)
        go_roundw
        case rel => exact ⟨j + 1, by go_num, by omega, Lib.hid (by rw [← HE.out]; exact hX1), Lib.hid (hF.out.trans hF1)⟩
        case measure => simp [intOf] <;> omega
      · go_wp2_with fail
        refine bodyPost_ret (results_none rfl _ _ _) rfl ?_
        rw [HZ.out (by first | rfl | trivial)]
        exact ⟨rfl, hX.out, hF.out⟩
    · obtain rfl : j = n := by omega
      have e : ns.take j = ns := List.take_of_length_le (by omega)
      rw [e] at hX
      go_wp2_with fail
      go_end0
      exact ⟨rfl, hX.out, hF.out⟩
set_option maxRecDepth 100000 in
set_option maxHeartbeats 1000000 in
theorem numbers_w {base g n c : Nat} {A : Option Addr} {W : World} {st : Option (List UInt8)} (ns : List Int) (hn : ns.length = n) (hns : i64L ns) (hm : n ≤ 1048576) (hI : ItoaOk base W) (hA : NFB base W A ns) (h : WX base g W st) :
    Calls Tryz.prog 59 #[.pointer (some ⟨g, 0, none⟩), .slice A n c] W fun e W' => e = .returned (.tuple #[]) ∧ WX base g W' (addT st (jn (ns.map shW))) ∧ FrB base W W' := by
  have hbs : base ≤ W.heap.size := by
    obtain ⟨l, ov, hw, _⟩ := h
    exact Nat.le_of_lt (Nat.lt_of_le_of_lt hw.le hw.lt)
  have hmf : ∀ (fn : Fn) (first cap : Array Value) (w : World), (Instr.makeFunc fn first cap).run Tryz.prog w = .ok (.func fn first cap) w := fun _ _ _ _ => rfl
  have hB : Below W.heap.size W (W.alloc (.cells #[.pointer (some ⟨g, 0, none⟩)] 81)) := bel_alloc (Below.refl _ _) _
  have K := Blk.new W 81 #[.pointer (some ⟨g, 0, none⟩)] _ rfl
  have CE := Lib.hid (each_int (c := c) ns hn hns hm (hI.frb (FrB.of hbs hB)) K (hA.frb (FrB.of hbs hB)) (h.below hB))
  have hF := Lib.hid (FrB.of hbs hB)
  clear h hA hI K hB
  go_enter Tryz.func59, Tryz.ntmps59
  go_wp2_with (go_at_call 90; (with_reducible refine Calls.mono CE.out ?_); rintro e W1 ⟨rfl, hX1, hF1⟩)
  go_end0
  exact ⟨rfl, hX1, hF.out.trans hF1⟩
end Go.Proofs.YtdkgbdecmgligaaGreatDoor

/- The program's writer: a line of a first word and numbers; the parts of a cage. -/
namespace Go.Proofs.YtdkgbdecmgligaaGreatDoor
open Go.RowKit
set_option linter.unusedVariables false
set_option linter.unusedSimpArgs false
set_option linter.unnecessarySimpa false
theorem WX.bs {base g : Nat} {W : World} {st : Option (List UInt8)} (h : WX base g W st) : base ≤ W.heap.size := by
  obtain ⟨l, ov, hw, _⟩ := h
  exact Nat.le_of_lt (Nat.lt_of_le_of_lt hw.le hw.lt)
set_option maxRecDepth 100000 in
set_option maxHeartbeats 1000000 in
theorem line_w {base g n c : Nat} {A : Option Addr} {W : World} {st : Option (List UInt8)} (kd : Wd) (hkd : kd.length ≤ 1000000) (ns : List Int) (hn : ns.length = n) (hns : i64L ns) (hm : n ≤ 1048576) (hI : ItoaOk base W) (hA : NFB base W A ns) (h : WX base g W st) :
    Calls Tryz.prog 26 #[.pointer (some ⟨g, 0, none⟩), .string ⟨kd.toArray⟩, .slice A n c] W fun e W' => e = .returned (.tuple #[]) ∧ WX base g W' (addT st (kd ++ jn (ns.map shW) ++ [10])) ∧ FrB base W W' := by
  have C1 := Lib.hid (put_any (⟨kd.toArray⟩ : ByteArray) (by show kd.toArray.size ≤ _; simpa using hkd) h)
  have C2 := Lib.hid (fun (W1 : World) (hX : WX base g W1 (addT st kd)) (hF : FrB base W W1) => numbers_w (c := c) ns hn hns hm (hI.frb hF) (hA.frb hF) hX)
  have C3 := Lib.hid (fun (W2 : World) (hX : WX base g W2 (addT (addT st kd) (jn (ns.map shW)))) => put_any (⟨#[10]⟩ : ByteArray) (by decide) hX)
  have HE := Lib.hid (show addT (addT (addT st kd) (jn (ns.map shW))) [10] = addT st (kd ++ jn (ns.map shW) ++ [10]) by rw [addT_assoc, addT_assoc, List.append_assoc])
  clear h hI hA
  go_enter Tryz.func26, Tryz.ntmps26
  go_wp2_with (first | (go_at_call 59; (with_reducible refine Calls.mono (C2.out _ hX1 hF1) ?_); rintro e W2 ⟨rfl, hX2, hF2⟩) | (go_at_call 58; first | ((with_reducible refine Calls.mono C1.out ?_); rintro e W1 ⟨rfl, hX1, hF1⟩) | ((with_reducible refine Calls.mono (C3.out _ hX2) ?_); rintro e W3 ⟨rfl, hX3, hF3⟩)))
  go_end0
  rw [← HE.out]
  exact ⟨rfl, hX3, hF1.trans (hF2.trans hF3)⟩
theorem nfb_of {base : Nat} {W : World} {b : Nat} {ns : List Int} {cs : Array Value} (hb : Blk W b 3 cs) (hc : ∀ i (h : i < ns.length), cs[i]? = some (.int .i64 ns[i])) : NFB base W (some ⟨b, 0, none⟩) ns := fun _ => ⟨b, 0, rfl, Kp.of hb (by decide) (by decide), fun i h => by rw [Nat.zero_add, hb.cell]; exact hc i h⟩
set_option maxRecDepth 100000 in
set_option maxHeartbeats 1000000 in
theorem cage1_w {base g k : Nat} {x y z : Int} {W : World} {st : Option (List UInt8)} (hns : i64L [x, y, z]) (hI : ItoaOk base W) (hk : Blk W k 81 #[.pointer (some ⟨g, 0, none⟩)]) (h : WX base g W st) :
    Calls Tryz.prog 62 #[.agg #[.int .i64 x, .int .i64 y, .int .i64 z], .pointer (some ⟨k, 0, none⟩)] W fun e W' => e = .returned (.tuple #[]) ∧ WX base g W' (addT st (kV ++ jn ([x, y, z].map shW) ++ [10])) ∧ FrB base W W' := by
  have hB1 : Below W.heap.size W (W.alloc (.cells #[.int .i64 x, .int .i64 y, .int .i64 z] 23)) := bel_alloc (Below.refl _ _) _
  have K1 := Blk.new W 23 #[.int .i64 x, .int .i64 y, .int .i64 z] _ rfl
  have hk1 := hk.below hB1
  have hkl := hk1.lt
  have ck : (W.alloc (.cells #[.int .i64 x, .int .i64 y, .int .i64 z] 23)).cell? ⟨k, 0, none⟩ = some (.pointer (some ⟨g, 0, none⟩)) := hk1.cell 0
  have CL := Lib.hid (show ∀ (V A : World) (b : Nat), Below W.heap.size W V → A = V.alloc (.cells #[.int .i64 x, .int .i64 y, .int .i64 z] 3) → b = V.heap.size → Calls Tryz.prog 26 #[.pointer (some ⟨g, 0, none⟩), .string ⟨#[118]⟩, .slice (some ⟨b, 0, none⟩) 3 3] A fun e W' => e = .returned (.tuple #[]) ∧ WX base g W' (addT st (kV ++ jn ([x, y, z].map shW) ++ [10])) ∧ FrB base A W' from fun V A b hV hA hb => by
    subst hA hb
    exact line_w (n := 3) (c := 3) kV (by decide) [x, y, z] rfl hns (by decide) (hI.frb (FrB.of h.bs (bel_trans hV (bel_alloc (Below.refl _ _) _)))) (nfb_of (Blk.new _ _ _ _ rfl) (fun i hi => by rcases (by simp at hi; omega : i = 0 ∨ i = 1 ∨ i = 2) with rfl | rfl | rfl <;> rfl)) (h.below (bel_trans hV (bel_alloc (Below.refl _ _) _))))
  have hbs := h.bs
  clear h hI hk hk1
  go_enter Tryz.func62, Tryz.ntmps62
  go_wp2_with fail
  refine Calls.mono (CL.out _ _ (W.heap.size + 1) hB1 rfl (by simp)) ?_
  rintro e W2 ⟨rfl, hX2, hF2⟩
  go_wp2_with fail
  go_end0
  exact ⟨rfl, hX2, (FrB.of hbs (bel_trans hB1 (bel_alloc (Below.refl _ _) _))).trans hF2⟩
end Go.Proofs.YtdkgbdecmgligaaGreatDoor

/- The program's writer: a crease, a face, a light. -/
namespace Go.Proofs.YtdkgbdecmgligaaGreatDoor
open Go.RowKit
set_option linter.unusedVariables false
set_option linter.unusedSimpArgs false
set_option linter.unnecessarySimpa false

set_option maxRecDepth 100000 in
set_option maxHeartbeats 1000000 in
theorem cage3_w {base g k : Nat} {x y z : Int} {W : World} {st : Option (List UInt8)} (hns : i64L [x, y, z]) (hI : ItoaOk base W) (hk : Blk W k 81 #[.pointer (some ⟨g, 0, none⟩)]) (h : WX base g W st) :
    Calls Tryz.prog 66 #[.agg #[.int .i64 x, .int .i64 y, .int .i64 z], .pointer (some ⟨k, 0, none⟩)] W fun e W' => e = .returned (.tuple #[]) ∧ WX base g W' (addT st (kCrease ++ jn ([x, y, z].map shW) ++ [10])) ∧ FrB base W W' := by
  have hB1 : Below W.heap.size W (W.alloc (.cells #[.int .i64 x, .int .i64 y, .int .i64 z] 98)) := bel_alloc (Below.refl _ _) _
  have K1 := Blk.new W 98 #[.int .i64 x, .int .i64 y, .int .i64 z] _ rfl
  have hk1 := hk.below hB1
  have hkl := hk1.lt
  have ck : (W.alloc (.cells #[.int .i64 x, .int .i64 y, .int .i64 z] 98)).cell? ⟨k, 0, none⟩ = some (.pointer (some ⟨g, 0, none⟩)) := hk1.cell 0
  have CL := Lib.hid (show ∀ (V A : World) (b : Nat), Below W.heap.size W V → A = V.alloc (.cells #[.int .i64 x, .int .i64 y, .int .i64 z] 3) → b = V.heap.size → Calls Tryz.prog 26 #[.pointer (some ⟨g, 0, none⟩), .string ⟨#[99, 114, 101, 97, 115, 101]⟩, .slice (some ⟨b, 0, none⟩) 3 3] A fun e W' => e = .returned (.tuple #[]) ∧ WX base g W' (addT st (kCrease ++ jn ([x, y, z].map shW) ++ [10])) ∧ FrB base A W' from fun V A b hV hA hb => by
    subst hA hb
    exact line_w (n := 3) (c := 3) kCrease (by decide) [x, y, z] rfl hns (by decide) (hI.frb (FrB.of h.bs (bel_trans hV (bel_alloc (Below.refl _ _) _)))) (nfb_of (Blk.new _ _ _ _ rfl) (fun i hi => by rcases (by simp at hi; omega : i = 0 ∨ i = 1 ∨ i = 2) with rfl | rfl | rfl <;> rfl)) (h.below (bel_trans hV (bel_alloc (Below.refl _ _) _))))
  have hbs := h.bs
  clear h hI hk hk1
  go_enter Tryz.func66, Tryz.ntmps66
  go_wp2_with fail
  refine Calls.mono (CL.out _ _ (W.heap.size + 1) hB1 rfl (by simp)) ?_
  rintro e W2 ⟨rfl, hX2, hF2⟩
  go_wp2_with fail
  go_end0
  exact ⟨rfl, hX2, (FrB.of hbs (bel_trans hB1 (bel_alloc (Below.refl _ _) _))).trans hF2⟩

set_option maxRecDepth 100000 in
set_option maxHeartbeats 1000000 in
theorem light_w {base g : Nat} {x y z r s t : Int} {W : World} {st : Option (List UInt8)} (hns : i64L [x, y, z, r, s, t]) (hI : ItoaOk base W) (h : WX base g W st) :
    Calls Tryz.prog 28 #[.pointer (some ⟨g, 0, none⟩), .agg #[.int .i64 x, .int .i64 y, .int .i64 z, .int .i64 r, .int .i64 s, .int .i64 t]] W fun e W' => e = .returned (.tuple #[]) ∧ WX base g W' (addT st (kLight ++ jn ([x, y, z, r, s, t].map shW) ++ [10])) ∧ FrB base W W' := by
  have hB1 : Below W.heap.size W (W.alloc (.cells #[.int .i64 x, .int .i64 y, .int .i64 z, .int .i64 r, .int .i64 s, .int .i64 t] 76)) := bel_alloc (Below.refl _ _) _
  have K1 := Blk.new W 76 #[.int .i64 x, .int .i64 y, .int .i64 z, .int .i64 r, .int .i64 s, .int .i64 t] _ rfl
  have CL := Lib.hid (show ∀ (V A : World) (b : Nat), Below W.heap.size W V → A = V.alloc (.cells #[.int .i64 x, .int .i64 y, .int .i64 z, .int .i64 r, .int .i64 s, .int .i64 t] 3) → b = V.heap.size → Calls Tryz.prog 26 #[.pointer (some ⟨g, 0, none⟩), .string ⟨#[108, 105, 103, 104, 116]⟩, .slice (some ⟨b, 0, none⟩) 6 6] A fun e W' => e = .returned (.tuple #[]) ∧ WX base g W' (addT st (kLight ++ jn ([x, y, z, r, s, t].map shW) ++ [10])) ∧ FrB base A W' from fun V A b hV hA hb => by
    subst hA hb
    exact line_w (n := 6) (c := 6) kLight (by decide) [x, y, z, r, s, t] rfl hns (by decide) (hI.frb (FrB.of h.bs (bel_trans hV (bel_alloc (Below.refl _ _) _)))) (nfb_of (Blk.new _ _ _ _ rfl) (fun i hi => by rcases (by simp at hi; omega : i = 0 ∨ i = 1 ∨ i = 2 ∨ i = 3 ∨ i = 4 ∨ i = 5) with rfl | rfl | rfl | rfl | rfl | rfl <;> rfl)) (h.below (bel_trans hV (bel_alloc (Below.refl _ _) _))))
  have hbs := h.bs
  clear h hI
  go_enter Tryz.func28, Tryz.ntmps28
  go_wp2_with fail
  refine Calls.mono (CL.out _ _ (W.heap.size + 1) hB1 rfl (by simp)) ?_
  rintro e W2 ⟨rfl, hX2, hF2⟩
  go_wp2_with fail
  go_end0
  exact ⟨rfl, hX2, (FrB.of hbs (bel_trans hB1 (bel_alloc (Below.refl _ _) _))).trans hF2⟩

set_option maxRecDepth 100000 in
set_option maxHeartbeats 1000000 in
theorem cage2_w {base g k n c : Nat} {A : Option Addr} {W : World} {st : Option (List UInt8)} (ns : List Int) (hn : ns.length = n) (hns : i64L ns) (hm : n ≤ 1048576) (hI : ItoaOk base W) (hk : Blk W k 81 #[.pointer (some ⟨g, 0, none⟩)]) (hA : NFB base W A ns) (h : WX base g W st) :
    Calls Tryz.prog 64 #[.slice A n c, .pointer (some ⟨k, 0, none⟩)] W fun e W' => e = .returned (.tuple #[]) ∧ WX base g W' (addT st (kF ++ jn (ns.map shW) ++ [10])) ∧ FrB base W W' := by
  have ck : W.cell? ⟨k, 0, none⟩ = some (.pointer (some ⟨g, 0, none⟩)) := hk.cell 0
  have hkl := hk.lt
  have CL := Lib.hid (line_w (c := c) kF (by decide) ns hn hns hm hI hA h)
  clear h hI hk hA
  go_enter Tryz.func64, Tryz.ntmps64
  go_wp2_with fail
  refine Calls.mono CL.out ?_
  rintro e W2 ⟨rfl, hX2, hF2⟩
  go_wp2_with fail
  go_end0
  exact ⟨rfl, hX2, hF2⟩
end Go.Proofs.YtdkgbdecmgligaaGreatDoor

/- The program's writer: the points of a cage, one behind the other. -/
namespace Go.Proofs.YtdkgbdecmgligaaGreatDoor
open Go.RowKit
set_option linter.unusedVariables false
set_option linter.unusedSimpArgs false
set_option linter.unnecessarySimpa false
/-- Rows of sz cells each. -/
def RB (base : Nat) (sz : Nat) (W : World) (A : Option Addr) (rows : List (List Value)) : Prop := 0 < rows.length → ∃ b off, A = some ⟨b, off, none⟩ ∧ Kp base W b ∧ ∀ i (h : i < rows.length), rows[i].length = sz ∧ ∀ j, j < sz → W.cell? ⟨b, off + i * sz + j, none⟩ = rows[i][j]?
theorem RB.frb {sz base : Nat} {W W1 : World} {A : Option Addr} {rows : List (List Value)} (h : RB base sz W A rows) (hf : FrB base W W1) : RB base sz W1 A rows := fun h0 => by
  obtain ⟨b, off, e, hb, hc⟩ := h h0
  exact ⟨b, off, e, hb.frb hf, fun i hi => ⟨(hc i hi).1, fun j hj => (hb.cell hf _).trans ((hc i hi).2 j hj)⟩⟩
theorem RB.range {base sz : Nat} {W : World} {A : Option Addr} {rows : List (List Value)} (h : RB base sz W A rows) (i : Nat) (hi : i < rows.length) : ∃ b off, A = some ⟨b, off, none⟩ ∧ b < W.heap.size ∧ W.rangeAt b (off + i * sz) rows[i] := by
  obtain ⟨b, off, e, hb, hc⟩ := h (by omega)
  obtain ⟨hl, hj⟩ := hc i hi
  refine ⟨b, off, e, hb.1, fun j v hv => ?_⟩
  have hjl : j < sz := by rw [← hl]; exact (List.getElem?_eq_some_iff.1 hv).1
  rw [hj j hjl]; exact hv
def vRow (n : List Int) : List Value := [.int .i64 (n.getD 0 0), .int .i64 (n.getD 1 0), .int .i64 (n.getD 2 0)]
/-- What a list of lines adds. -/
def tx (kd : Wd) (ps : List (List Int)) : List UInt8 := ps.flatMap fun n => kd ++ jn (n.map shW) ++ [10]
theorem tx_take (kd : Wd) {ps : List (List Int)} {j : Nat} (h : j < ps.length) : tx kd (ps.take (j + 1)) = tx kd (ps.take j) ++ (kd ++ jn (ps[j].map shW) ++ [10]) := by
  rw [List.take_succ_eq_append_getElem h]
  unfold tx
  rw [List.flatMap_append, List.flatMap_cons, List.flatMap_nil, List.append_nil]
theorem tx_split (kd : Wd) (ps : List (List Int)) (j : Nat) : tx kd ps = tx kd (ps.take j) ++ tx kd (ps.drop j) := by
  unfold tx
  rw [← List.flatMap_append, List.take_append_drop]
theorem infoV3 : (Tryz.prog.info? 23).map (·.size) = some 3 := by kernel_rfl
set_option maxRecDepth 100000 in
set_option maxHeartbeats 1000000 in
theorem each_V {base g k n c : Nat} {A : Option Addr} {W : World} {st : Option (List UInt8)} (ps : List (List Int)) (hn : ps.length = n) (hp : ∀ q ∈ ps, q.length = 3 ∧ i64L q) (hm : n ≤ 1048576) (hI : ItoaOk base W) (hk : Blk W k 81 #[.pointer (some ⟨g, 0, none⟩)]) (hA : RB base 3 W A (ps.map vRow)) (h : WX base g W st) :
    Calls Tryz.prog 61 #[.pointer (some ⟨g, 0, none⟩), .slice A n c, .func (Fn.func 62) #[] #[.pointer (some ⟨k, 0, none⟩)]] W fun e W' => e = .returned (.tuple #[]) ∧ WX base g W' (addT st (tx kV ps)) ∧ FrB base W W' := by
  go_enter Tryz.func61, Tryz.ntmps61
  go_wp2_with fail
  go_loopw [10] (fun i wr => ∃ (j : Nat), i = .int .i64 (j : Int) ∧ j ≤ n ∧ Hid (WX base g wr (addT st (tx kV (ps.take j)))) ∧ Hid (FrB base W wr)) (fun i _ => n - (intOf i).toNat)
  case atStart => exact ⟨0, rfl, by omega, Lib.hid (by have e : addT st (tx kV (ps.take 0)) = st := h.nil; rw [e]; exact h), Lib.hid (FrB.refl _ _)⟩
  case round =>
    obtain ⟨j, rfl, hj, hX, hF⟩ := hrel
    by_cases hlt : j < n
    · have hlw : j < ps.length := by omega
      obtain ⟨b, off, rfl, hbl, hr⟩ := (hA.frb hF.out).range j (by simpa using hlw)
      have k0 : (0 : Int) ≤ (j : Int) := by omega
      have k1 : (j : Int) < (n : Int) := by omega
      obtain ⟨hl3, h64⟩ := hp ps[j] (List.getElem_mem hlw)
      obtain ⟨x, y, z, hq⟩ : ∃ x y z, ps[j] = [x, y, z] := by
        match ps[j], hl3 with
        | [x, y, z], _ => exact ⟨x, y, z, rfl⟩
      have rng : wr.rangeAt b (off + j * 3) [.int .i64 x, .int .i64 y, .int .i64 z] := by
        have e : (ps.map vRow)[j]'(by simpa using hlw) = [.int .i64 x, .int .i64 y, .int .i64 z] := by rw [List.getElem_map, hq]; rfl
        rw [← e]; exact hr
      obtain ⟨ov, o1, o2, o3⟩ := hX.out.over?
      have hB : Below wr.heap.size wr (wr.alloc (.cells #[.int .i64 x, .int .i64 y, .int .i64 z] 23)) := bel_alloc (Below.refl _ _) _
      have hX' := Lib.hid (hX.out.below hB)
      have hF' := Lib.hid (hF.out.trans (FrB.of hX.out.bs hB))
      have C1 := Lib.hid (cage1_w (by rw [← hq]; exact h64) (hI.frb hF'.out) (hF'.out.blk hk (by decide) (by decide)) hX'.out)
      have HE := Lib.hid (show addT (addT st (tx kV (ps.take j))) (kV ++ jn ([x, y, z].map shW) ++ [10]) = addT st (tx kV (ps.take (j + 1))) by rw [addT_assoc, tx_take kV hlw, hq])
      have HZ := Lib.hid (show ov = true → addT st (tx kV ps) = addT st (tx kV (ps.take j)) from fun e => by
        rw [tx_split kV ps j, ← addT_assoc, o3 e]; rfl)
      replace rng := Lib.hid rng
      clear hr hA o3 hq hl3 h64 hB
      cases ov
      · go_wp2_with (first | (refine wpList_load_mid rfl 23 _ rfl b (off + j * 3) rfl [.int .i64 x, .int .i64 y, .int .i64 z] _ rng.out Tryz.underlying23 rfl infoV3 ?_) | (go_at_call 62; (with_reducible refine Calls.mono C1.out ?_); rintro e W1 ⟨rfl, hX1, hF1⟩))
        go_roundw
        case rel => exact ⟨j + 1, by go_num, by omega, Lib.hid (by rw [← HE.out]; exact hX1), Lib.hid (hF'.out.trans hF1)⟩
        case measure => simp [intOf] <;> omega
      · go_wp2_with (refine wpList_load_mid rfl 23 _ rfl b (off + j * 3) rfl [.int .i64 x, .int .i64 y, .int .i64 z] _ rng.out Tryz.underlying23 rfl infoV3 ?_)
        refine bodyPost_ret (results_none rfl _ _ _) rfl ?_
        rw [HZ.out (by first | rfl | trivial)]
        exact ⟨rfl, hX'.out, hF'.out⟩
    · obtain rfl : j = n := by omega
      have e : ps.take j = ps := List.take_of_length_le (by omega)
      rw [e] at hX
      go_wp2_with fail
      go_end0
      exact ⟨rfl, hX.out, hF.out⟩
end Go.Proofs.YtdkgbdecmgligaaGreatDoor

/- The program's writer: the creases and the faces of a cage, the lights. -/
namespace Go.Proofs.YtdkgbdecmgligaaGreatDoor
open Go.RowKit
set_option linter.unusedVariables false
set_option linter.unusedSimpArgs false
set_option linter.unnecessarySimpa false
theorem infoCr3 : (Tryz.prog.info? 98).map (·.size) = some 3 := by kernel_rfl
set_option maxRecDepth 100000 in
set_option maxHeartbeats 1000000 in
theorem each_C {base g k n c : Nat} {A : Option Addr} {W : World} {st : Option (List UInt8)} (ps : List (List Int)) (hn : ps.length = n) (hp : ∀ q ∈ ps, q.length = 3 ∧ i64L q) (hm : n ≤ 1048576) (hI : ItoaOk base W) (hk : Blk W k 81 #[.pointer (some ⟨g, 0, none⟩)]) (hA : RB base 3 W A (ps.map vRow)) (h : WX base g W st) :
    Calls Tryz.prog 65 #[.pointer (some ⟨g, 0, none⟩), .slice A n c, .func (Fn.func 66) #[] #[.pointer (some ⟨k, 0, none⟩)]] W fun e W' => e = .returned (.tuple #[]) ∧ WX base g W' (addT st (tx kCrease ps)) ∧ FrB base W W' := by
  go_enter Tryz.func65, Tryz.ntmps65
  go_wp2_with fail
  go_loopw [10] (fun i wr => ∃ (j : Nat), i = .int .i64 (j : Int) ∧ j ≤ n ∧ Hid (WX base g wr (addT st (tx kCrease (ps.take j)))) ∧ Hid (FrB base W wr)) (fun i _ => n - (intOf i).toNat)
  case atStart => exact ⟨0, rfl, by omega, Lib.hid (by have e : addT st (tx kCrease (ps.take 0)) = st := h.nil; rw [e]; exact h), Lib.hid (FrB.refl _ _)⟩
  case round =>
    obtain ⟨j, rfl, hj, hX, hF⟩ := hrel
    by_cases hlt : j < n
    · have hlw : j < ps.length := by omega
      obtain ⟨b, off, rfl, hbl, hr⟩ := (hA.frb hF.out).range j (by simpa using hlw)
      have k0 : (0 : Int) ≤ (j : Int) := by omega
      have k1 : (j : Int) < (n : Int) := by omega
      obtain ⟨hl3, h64⟩ := hp ps[j] (List.getElem_mem hlw)
      obtain ⟨x, y, z, hq⟩ : ∃ x y z, ps[j] = [x, y, z] := by
        match ps[j], hl3 with
        | [x, y, z], _ => exact ⟨x, y, z, rfl⟩
      have rng : wr.rangeAt b (off + j * 3) [.int .i64 x, .int .i64 y, .int .i64 z] := by
        have e : (ps.map vRow)[j]'(by simpa using hlw) = [.int .i64 x, .int .i64 y, .int .i64 z] := by rw [List.getElem_map, hq]; rfl
        rw [← e]; exact hr
      obtain ⟨ov, o1, o2, o3⟩ := hX.out.over?
      have hB : Below wr.heap.size wr (wr.alloc (.cells #[.int .i64 x, .int .i64 y, .int .i64 z] 98)) := bel_alloc (Below.refl _ _) _
      have hX' := Lib.hid (hX.out.below hB)
      have hF' := Lib.hid (hF.out.trans (FrB.of hX.out.bs hB))
      have C1 := Lib.hid (cage3_w (by rw [← hq]; exact h64) (hI.frb hF'.out) (hF'.out.blk hk (by decide) (by decide)) hX'.out)
      have HE := Lib.hid (show addT (addT st (tx kCrease (ps.take j))) (kCrease ++ jn ([x, y, z].map shW) ++ [10]) = addT st (tx kCrease (ps.take (j + 1))) by rw [addT_assoc, tx_take kCrease hlw, hq])
      have HZ := Lib.hid (show ov = true → addT st (tx kCrease ps) = addT st (tx kCrease (ps.take j)) from fun e => by
        rw [tx_split kCrease ps j, ← addT_assoc, o3 e]; rfl)
      replace rng := Lib.hid rng
      clear hr hA o3 hq hl3 h64 hB
      cases ov
      · go_wp2_with (first | (refine wpList_load_mid rfl 98 _ rfl b (off + j * 3) rfl [.int .i64 x, .int .i64 y, .int .i64 z] _ rng.out Tryz.underlying98 rfl infoCr3 ?_) | (go_at_call 66; (with_reducible refine Calls.mono C1.out ?_); rintro e W1 ⟨rfl, hX1, hF1⟩))
        go_roundw
        case rel => exact ⟨j + 1, by go_num, by omega, Lib.hid (by rw [← HE.out]; exact hX1), Lib.hid (hF'.out.trans hF1)⟩
        case measure => simp [intOf] <;> omega
      · go_wp2_with (refine wpList_load_mid rfl 98 _ rfl b (off + j * 3) rfl [.int .i64 x, .int .i64 y, .int .i64 z] _ rng.out Tryz.underlying98 rfl infoCr3 ?_)
        refine bodyPost_ret (results_none rfl _ _ _) rfl ?_
        rw [HZ.out (by first | rfl | trivial)]
        exact ⟨rfl, hX'.out, hF'.out⟩
    · obtain rfl : j = n := by omega
      have e : ps.take j = ps := List.take_of_length_le (by omega)
      rw [e] at hX
      go_wp2_with fail
      go_end0
      exact ⟨rfl, hX.out, hF.out⟩
def lRow (n : List Int) : List Value := [.int .i64 (n.getD 0 0), .int .i64 (n.getD 1 0), .int .i64 (n.getD 2 0), .int .i64 (n.getD 3 0), .int .i64 (n.getD 4 0), .int .i64 (n.getD 5 0)]
theorem infoL6 : (Tryz.prog.info? 76).map (·.size) = some 6 := by kernel_rfl
set_option maxRecDepth 100000 in
set_option maxHeartbeats 1000000 in
theorem each_L {base g n c : Nat} {A : Option Addr} {W : World} {st : Option (List UInt8)} (ps : List (List Int)) (hn : ps.length = n) (hp : ∀ q ∈ ps, q.length = 6 ∧ i64L q) (hm : n ≤ 1048576) (hI : ItoaOk base W) (hA : RB base 6 W A (ps.map lRow)) (h : WX base g W st) :
    Calls Tryz.prog 27 #[.pointer (some ⟨g, 0, none⟩), .slice A n c, .func (Fn.func 28) #[.pointer (some ⟨g, 0, none⟩)] #[]] W fun e W' => e = .returned (.tuple #[]) ∧ WX base g W' (addT st (tx kLight ps)) ∧ FrB base W W' := by
  go_enter Tryz.func27, Tryz.ntmps27
  go_wp2_with fail
  go_loopw [10] (fun i wr => ∃ (j : Nat), i = .int .i64 (j : Int) ∧ j ≤ n ∧ Hid (WX base g wr (addT st (tx kLight (ps.take j)))) ∧ Hid (FrB base W wr)) (fun i _ => n - (intOf i).toNat)
  case atStart => exact ⟨0, rfl, by omega, Lib.hid (by have e : addT st (tx kLight (ps.take 0)) = st := h.nil; rw [e]; exact h), Lib.hid (FrB.refl _ _)⟩
  case round =>
    obtain ⟨j, rfl, hj, hX, hF⟩ := hrel
    by_cases hlt : j < n
    · have hlw : j < ps.length := by omega
      obtain ⟨b, off, rfl, hbl, hr⟩ := (hA.frb hF.out).range j (by simpa using hlw)
      have k0 : (0 : Int) ≤ (j : Int) := by omega
      have k1 : (j : Int) < (n : Int) := by omega
      obtain ⟨hl3, h64⟩ := hp ps[j] (List.getElem_mem hlw)
      obtain ⟨x, y, z, r, s, t, hq⟩ : ∃ x y z r s t, ps[j] = [x, y, z, r, s, t] := by
        match ps[j], hl3 with
        | [x, y, z, r, s, t], _ => exact ⟨x, y, z, r, s, t, rfl⟩
      have rng : wr.rangeAt b (off + j * 6) [.int .i64 x, .int .i64 y, .int .i64 z, .int .i64 r, .int .i64 s, .int .i64 t] := by
        have e : (ps.map lRow)[j]'(by simpa using hlw) = [.int .i64 x, .int .i64 y, .int .i64 z, .int .i64 r, .int .i64 s, .int .i64 t] := by rw [List.getElem_map, hq]; rfl
        rw [← e]; exact hr
      obtain ⟨ov, o1, o2, o3⟩ := hX.out.over?
      have hB : Below wr.heap.size wr (wr.alloc (.cells #[.int .i64 x, .int .i64 y, .int .i64 z, .int .i64 r, .int .i64 s, .int .i64 t] 76)) := bel_alloc (Below.refl _ _) _
      have hX' := Lib.hid (hX.out.below hB)
      have hF' := Lib.hid (hF.out.trans (FrB.of hX.out.bs hB))
      have C1 := Lib.hid (light_w (by rw [← hq]; exact h64) (hI.frb hF'.out) hX'.out)
      have HE := Lib.hid (show addT (addT st (tx kLight (ps.take j))) (kLight ++ jn ([x, y, z, r, s, t].map shW) ++ [10]) = addT st (tx kLight (ps.take (j + 1))) by rw [addT_assoc, tx_take kLight hlw, hq])
      have HZ := Lib.hid (show ov = true → addT st (tx kLight ps) = addT st (tx kLight (ps.take j)) from fun e => by
        rw [tx_split kLight ps j, ← addT_assoc, o3 e]; rfl)
      replace rng := Lib.hid rng
      clear hr hA o3 hq hl3 h64 hB
      cases ov
      · go_wp2_with (first | (refine wpList_load_mid rfl 76 _ rfl b (off + j * 6) rfl [.int .i64 x, .int .i64 y, .int .i64 z, .int .i64 r, .int .i64 s, .int .i64 t] _ rng.out Tryz.underlying76 rfl infoL6 ?_) | (go_at_call 28; (with_reducible refine Calls.mono C1.out ?_); rintro e W1 ⟨rfl, hX1, hF1⟩))
        go_roundw
        case rel => exact ⟨j + 1, by go_num, by omega, Lib.hid (by rw [← HE.out]; exact hX1), Lib.hid (hF'.out.trans hF1)⟩
        case measure => simp [intOf] <;> omega
      · go_wp2_with (refine wpList_load_mid rfl 76 _ rfl b (off + j * 6) rfl [.int .i64 x, .int .i64 y, .int .i64 z, .int .i64 r, .int .i64 s, .int .i64 t] _ rng.out Tryz.underlying76 rfl infoL6 ?_)
        refine bodyPost_ret (results_none rfl _ _ _) rfl ?_
        rw [HZ.out (by first | rfl | trivial)]
        exact ⟨rfl, hX'.out, hF'.out⟩
    · obtain rfl : j = n := by omega
      have e : ps.take j = ps := List.take_of_length_le (by omega)
      rw [e] at hX
      go_wp2_with fail
      go_end0
      exact ⟨rfl, hX.out, hF.out⟩
/-- A row of slices of numbers, and their rows. -/
def FRB (base : Nat) (W : World) (A : Option Addr) (ps : List (List Int)) : Prop := 0 < ps.length → ∃ b off, A = some ⟨b, off, none⟩ ∧ Kp base W b ∧ ∀ i (h : i < ps.length), ∃ B m, W.cell? ⟨b, off + i, none⟩ = some (.slice B ps[i].length m) ∧ NFB base W B ps[i]
theorem FRB.frb {base : Nat} {W W1 : World} {A : Option Addr} {ps : List (List Int)} (h : FRB base W A ps) (hf : FrB base W W1) : FRB base W1 A ps := fun h0 => by
  obtain ⟨b, off, e, hb, hc⟩ := h h0
  refine ⟨b, off, e, hb.frb hf, fun i hi => ?_⟩
  obtain ⟨B, m, h1, h2⟩ := hc i hi
  exact ⟨B, m, (hb.cell hf _).trans h1, h2.frb hf⟩
theorem FRB.at_ {base : Nat} {W : World} {A : Option Addr} {ps : List (List Int)} (h : FRB base W A ps) (j : Nat) (hj : j < ps.length) : ∃ b off B m, A = some ⟨b, off, none⟩ ∧ b < W.heap.size ∧ W.cell? ⟨b, off + j, none⟩ = some (.slice B ps[j].length m) ∧ NFB base W B ps[j] := by
  obtain ⟨b, off, e, hb, hc⟩ := h (by omega)
  obtain ⟨B, m, h1, h2⟩ := hc j hj
  exact ⟨b, off, B, m, e, hb.1, h1, h2⟩
set_option maxRecDepth 100000 in
set_option maxHeartbeats 1000000 in
theorem each_F {base g k n c : Nat} {A : Option Addr} {W : World} {st : Option (List UInt8)} (ps : List (List Int)) (hn : ps.length = n) (hp : ∀ q ∈ ps, q.length ≤ 1048576 ∧ i64L q) (hm : n ≤ 1048576) (hI : ItoaOk base W) (hk : Blk W k 81 #[.pointer (some ⟨g, 0, none⟩)]) (hA : FRB base W A ps) (h : WX base g W st) :
    Calls Tryz.prog 63 #[.pointer (some ⟨g, 0, none⟩), .slice A n c, .func (Fn.func 64) #[] #[.pointer (some ⟨k, 0, none⟩)]] W fun e W' => e = .returned (.tuple #[]) ∧ WX base g W' (addT st (tx kF ps)) ∧ FrB base W W' := by
  go_enter Tryz.func63, Tryz.ntmps63
  go_wp2_with fail
  go_loopw [10] (fun i wr => ∃ (j : Nat), i = .int .i64 (j : Int) ∧ j ≤ n ∧ Hid (WX base g wr (addT st (tx kF (ps.take j)))) ∧ Hid (FrB base W wr)) (fun i _ => n - (intOf i).toNat)
  case atStart => exact ⟨0, rfl, by omega, Lib.hid (by have e : addT st (tx kF (ps.take 0)) = st := h.nil; rw [e]; exact h), Lib.hid (FrB.refl _ _)⟩
  case round =>
    obtain ⟨j, rfl, hj, hX, hF⟩ := hrel
    by_cases hlt : j < n
    · have hlw : j < ps.length := by omega
      obtain ⟨b, off, B, m, rfl, hbl, hr, hN⟩ := (hA.frb hF.out).at_ j hlw
      have k0 : (0 : Int) ≤ (j : Int) := by omega
      have k1 : (j : Int) < (n : Int) := by omega
      obtain ⟨hl3, h64⟩ := hp ps[j] (List.getElem_mem hlw)
      obtain ⟨ov, o1, o2, o3⟩ := hX.out.over?
      have C1 := Lib.hid (cage2_w (c := m) ps[j] rfl h64 hl3 (hI.frb hF.out) (hF.out.blk hk (by decide) (by decide)) hN hX.out)
      have HE := Lib.hid (show addT (addT st (tx kF (ps.take j))) (kF ++ jn (ps[j].map shW) ++ [10]) = addT st (tx kF (ps.take (j + 1))) by rw [addT_assoc, tx_take kF hlw])
      have HZ := Lib.hid (show ov = true → addT st (tx kF ps) = addT st (tx kF (ps.take j)) from fun e => by
        rw [tx_split kF ps j, ← addT_assoc, o3 e]; rfl)
      clear hA o3 hl3 h64 hN
      generalize ps[j].length = pl at *
      cases ov
      · go_wp2_with (go_at_call 64; (with_reducible refine Calls.mono C1.out ?_); rintro e W1 ⟨rfl, hX1, hF1⟩)
        go_roundw
        case rel => exact ⟨j + 1, by go_num, by omega, Lib.hid (by rw [← HE.out]; exact hX1), Lib.hid (hF.out.trans hF1)⟩
        case measure => simp [intOf] <;> omega
      · go_wp2_with fail
        refine bodyPost_ret (results_none rfl _ _ _) rfl ?_
        rw [HZ.out (by first | rfl | trivial)]
        exact ⟨rfl, hX.out, hF.out⟩
    · obtain rfl : j = n := by omega
      have e : ps.take j = ps := List.take_of_length_le (by omega)
      rw [e] at hX
      go_wp2_with fail
      go_end0
      exact ⟨rfl, hX.out, hF.out⟩
end Go.Proofs.YtdkgbdecmgligaaGreatDoor
