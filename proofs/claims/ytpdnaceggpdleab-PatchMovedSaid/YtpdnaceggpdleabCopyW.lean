/- A cage, copied, whatever its slices' rooms. -/
import Derived.Test.YtpdnaceggpdleabC14
namespace Go.Proofs.Ytpdnaceggpdleab
open Go.RowKit
set_option linter.unusedVariables false
set_option linter.unusedSimpArgs false
theorem run_append_owned_nilc {P : Program} {w : World} (base : Nat) (t ty e : TypeId) (i : TypeInfo) (size : Nat) (ht : P.underlying t = some (.slice e)) (hi : P.info? e = some i)
    (v : Value) (n : Nat) (xs : List Value) (hown : w.ownsRow base e size v n xs) (c : Nat) :
    (Builtin.append_ #[t, t] ty #[v, .slice none 0 c]).run P w = .ok v w := by
  rcases hown.2 with ⟨rfl, rfl⟩ | ⟨g, cap, cur, rfl, _, _, hnc, _⟩
  · simp [Builtin.append_, run_underlying ht, sizeOf, typeInfo, hi, Builtin.lenOf, Builtin.firstCells]
  · simp [Builtin.append_, run_underlying ht, sizeOf, typeInfo, hi, Builtin.lenOf, Builtin.firstCells, hnc, storeCells]
theorem wpList_append_own_nilc {P : Program} (w : World) {ops : Array Oper} {rest : List Oper} {o : Oper} {a : Act} {Q : Exit → Act → World → Prop} (hgd : o.guard = none) (s x : Operand) (t : TypeId)
    (ho : o.op = .call { callee := .builtin .append, args := #[s, x], argTypes := #[t, t] })
    (base : Nat) (e : TypeId) (i : TypeInfo) (size : Nat) (ht : P.underlying t = some (.slice e)) (hi : P.info? e = some i)
    (v : Value) (n : Nat) (xs : List Value) (hs : a.eval s = v) (hown : w.ownsRow base e size v n xs) (c : Nat) (hx : a.eval x = .slice none 0 c)
    (h : wpList P ops Q rest (a.put o.dst v) w) : wpList P ops Q (o :: rest) a w := by
  refine wpList_plain hgd fun K hK => ?_
  have hrun := run_append_owned_nilc (P := P) (w := w) base t o.type e i size ht hi v n xs hown c
  unfold Oper.wp
  simp [execOp, ho, resolve, invoke, builtin, hs, hx, hrun, Result.andThen]
  exact hK _ _ h
set_option maxHeartbeats 1000000 in
theorem copyW_any (w : World) (A : Option Addr) (n c : Nat) (p : Nat → Int × Int × Int) (hv : VF w A n p) (hn : n ≤ 1048576) :
    Calls Try.prog 20 #[.slice A n c] w fun e w' => ∃ v, e = .returned v ∧ ∃ x, w' = grow w x ∧ (grow w x).ownsRow w.heap.size 30 3 v n (newsV p n) := by
  obtain ⟨i0, hi0, hz0, hz1, hz2⟩ := info_parts infoV
  have fin : ∀ (v1 : Value) (w1 : World), w1.ownsRow w.heap.size 30 3 v1 (0 + n) ([] ++ newsV p n) → (w.alloc (.cells #[] 30)).grownBy w1 (some w.heap.size) → ∃ x, w1 = grow w x ∧ (grow w x).ownsRow w.heap.size 30 3 v1 n (newsV p n) := by
    intro v1 w1 h1 h2
    rw [Nat.zero_add, List.nil_append] at h1
    have hb : Below w.heap.size w w1 := (bel_alloc (Below.refl _ _) _).grown h2 (by simp) (fun k hk => by simp at hk; omega)
    exact ⟨More.of w w1 hb, (grow_mk _ _ hb).symm, by rw [grow_mk]; exact h1⟩
  have fin := Lib.hid fin
  have nn := Lib.hid (newsV_len p n)
  cases A with
  | none =>
    obtain rfl : n = 0 := by
      rcases Nat.eq_zero_or_pos n with h | h
      · exact h
      · obtain ⟨_, _, e, _⟩ := hv h; cases e
    go_enter Try.func20, Try.ntmps20
    go_wp2_with (at_builtin; refine wpList_append_own_nilc _ rfl (.tmp 5) (.tmp 6) _ rfl w.heap.size 30 i0 3 Try.underlying22 hi0 (.slice (some ⟨w.heap.size, 0, none⟩) 0 0) 0 [] rfl (World.ownsRow_made _ _ _ (Nat.le_refl _) (by unfold maxLen; omega) rfl) c rfl ?_)
    go_ret
    exact ⟨_, rfl, fin.out _ _ (World.ownsRow_made _ _ _ (Nat.le_refl _) (by unfold maxLen; omega) rfl) ⟨rfl, rfl, rfl, Nat.le_refl _, fun _ _ _ => rfl⟩⟩
  | some ad =>
    rcases Nat.eq_zero_or_pos n with hz | hz
    · subst hz
      go_enter Try.func20, Try.ntmps20
      go_wp2_with (at_builtin; refine wpList_append_own_at _ rfl (.tmp 5) (.tmp 6) _ rfl w.heap.size 30 i0 _ 3 24 Try.underlying22 hi0 hz0 hz1 hz2 rfl (by omega) (.slice (some ⟨w.heap.size, 0, none⟩) 0 0) 0 [] rfl (World.ownsRow_made _ _ _ (Nat.le_refl _) (by unfold maxLen; omega) rfl) ad 0 c [] rfl rfl (fun j u h => by cases h) (fun u h => by cases h) (by unfold maxLen; omega) (by omega) (by simp) ?_; intro v1 w1 hown1 hg1 hnil1 hat1)
      go_ret
      exact ⟨_, rfl, fin.out _ _ hown1 hg1⟩
    · obtain ⟨b, off, e, hl, _⟩ := hv hz
      cases e
      have hv' : VF (w.alloc (.cells #[] 30)) (some ⟨b, off, none⟩) n p := hv.below (bel_alloc (Below.refl _ _) _)
      have hv' := Lib.hid hv'
      clear hv
      go_enter Try.func20, Try.ntmps20
      go_wp2_with (at_builtin; refine wpList_append_own_at _ rfl (.tmp 5) (.tmp 6) _ rfl w.heap.size 30 i0 _ 3 24 Try.underlying22 hi0 hz0 hz1 hz2 rfl (by omega) (.slice (some ⟨w.heap.size, 0, none⟩) 0 0) 0 [] rfl (World.ownsRow_made _ _ _ (Nat.le_refl _) (by unfold maxLen; omega) rfl) ⟨b, off, none⟩ n c (newsV p n) rfl nn.out hv'.out.news (newsV_one p n) (by unfold maxLen; omega) (by omega) (by simp) ?_; intro v1 w1 hown1 hg1 hnil1 hat1)
      go_ret
      exact ⟨_, rfl, fin.out _ _ hown1 hg1⟩

set_option maxHeartbeats 4000000 in
theorem copyVLW_any (W : World) (A : Option Addr) (k : Nat) (ps : List P3) (hV : VL W A ps) (hn : ps.length ≤ 1048576) :
    Calls Try.prog 20 #[.slice A ps.length k] W fun e W' => ∃ B d, e = .returned (.slice B ps.length d) ∧ W'.ownsRow W.heap.size 30 3 (.slice B ps.length d) ps.length (kC ps) ∧ Below W.heap.size W W' := by
  refine (copyW_any W A ps.length k (ptF ps) hV.vf hn).mono ?_
  rintro e W' ⟨v, rfl, x, rfl, ho⟩
  rw [newsV_kC] at ho
  obtain ⟨hl, ⟨rfl, h0⟩ | ⟨g, cap, cur, rfl, h⟩⟩ := ho
  · rw [h0] at hl ⊢
    exact ⟨none, 0, rfl, ⟨hl, .inl ⟨rfl, rfl⟩⟩, bel_grow (Below.refl _ _) x⟩
  · exact ⟨_, cap, rfl, ⟨hl, .inr ⟨g, cap, cur, rfl, h⟩⟩, bel_grow (Below.refl _ _) x⟩
set_option maxHeartbeats 4000000 in
theorem copyCW_any (W : World) (A1 A2 A3 : Option Addr) (k1 k2 k3 : Nat) (vs : List P3) (fs : List (List Int)) (ks : List P3) (v1 : VL W A1 vs) (v2 : FL W A2 fs) (v3 : VL W A3 ks) (l1 : vs.length ≤ 1000) (l2 : fs.length ≤ 1000) (l3 : ks.length ≤ 4000) (hx : ∀ x ∈ fs, x.length < 1099511627776) :
    Calls Try.prog 12 #[.agg #[.slice A1 vs.length k1, .slice A2 fs.length k2, .slice A3 ks.length k3]] W fun e W' => ∃ (B1 B2 B3 : Option Addr) (d1 d2 d3 : Nat), e = .returned (.agg #[.slice B1 vs.length d1, .slice B2 fs.length d2, .slice B3 ks.length d3]) ∧ Below W.heap.size W W' ∧ W'.ownsRow W.heap.size 30 3 (.slice B1 vs.length d1) vs.length (kC vs) ∧ OwnF W' W.heap.size B2 d2 fs ∧ W'.ownsRow W.heap.size 109 3 (.slice B3 ks.length d3) ks.length (kC ks) := by
  obtain ⟨W0, hW0⟩ : ∃ W0, W0 = (W.alloc (.cells #[.slice A1 vs.length k1, .slice A2 fs.length k2, .slice A3 ks.length k3] 27)).alloc (.cells #[.slice none 0 0, .slice none 0 0, .slice none 0 0] 27) := ⟨_, rfl⟩
  have hB0 : Below W.heap.size W W0 := by rw [hW0]; exact bel_alloc (bel_alloc (Below.refl _ _) _) _
  have hC0 : Blk W0 W.heap.size 27 #[.slice A1 vs.length k1, .slice A2 fs.length k2, .slice A3 ks.length k3] := by rw [hW0]; exact (Blk.new _ _ _ _ rfl).alloc _
  have hR0 : Blk W0 (W.heap.size + 1) 27 #[.slice none 0 0, .slice none 0 0, .slice none 0 0] := by rw [hW0]; exact Blk.new _ _ _ _ (by simp)
  have hsz : W.heap.size + 1 < W0.heap.size := hR0.lt
  obtain ⟨i0, hi0, hz0, hz1, hz2⟩ := info_parts infoCr9
  have hlit : (W0.alloc (.cells #[] 109)).ownsRow W0.heap.size 109 3 (.slice (some ⟨W0.heap.size, 0, none⟩) 0 0) 0 [] := World.ownsRow_made _ _ _ (Nat.le_refl _) (by unfold maxLen; omega) rfl
  have hB1 : Below W0.heap.size W0 (W0.alloc (.cells #[] 109)) := bel_alloc (Below.refl _ _) _
  have v3b := v3.below (bel_trans hB0 hB1)
  have hC1 := hC0.below hB1
  have rest : ∀ (w1 : World) (v : Value), w1.ownsRow W0.heap.size 109 3 v ks.length (kC ks) → Below W0.heap.size W0 w1 → ∃ (B3 : Option Addr) (d3 : Nat), v = .slice B3 ks.length d3 ∧ w1.ownsRow W0.heap.size 109 3 (.slice B3 ks.length d3) ks.length (kC ks) := fun w1 v ho hb => by
    obtain ⟨A, c, rfl⟩ := own_form ho
    exact ⟨A, c, rfl, ho⟩
  replace rest := Lib.hid rest
  have cV := fun (w1 : World) (hb : Below W0.heap.size W0 w1) => copyVLW_any w1 A1 k1 vs (v1.below (bel_trans hB0 hb)) (by omega)
  have cF := fun (w1 : World) (hb : Below W0.heap.size W0 w1) => copyF_any0 w1 A2 k2 fs (v2.below (bel_trans hB0 hb)) (by omega) hx
  replace cV := Lib.hid cV
  replace cF := Lib.hid cF
  have x0 : (W0.alloc (.cells #[] 109)).cell? ⟨W.heap.size, 2, none⟩ = some (.slice A3 ks.length k3) := hC1.cell 2
  have xl := hC1.lt
  have fin : ∀ (w1 : World) (v : Value), w1.ownsRow W0.heap.size 109 3 v ks.length (kC ks) → Below W0.heap.size W0 w1 → True := fun _ _ _ _ => trivial
  go_enter Try.func12, Try.ntmps12
  go_upto_region 1 with (fail)
  go_upto_region 2 with (fail)
  have hsz2 : W.heap.size + 1 + 1 = W0.heap.size := by rw [hW0]; simp
  simp only [← hW0, hsz2]
  replace hlit := Lib.hid hlit
  have hfix : ∀ (w1 : World) (v1 : Value), w1.ownsRow W0.heap.size 109 3 v1 (0 + ks.length) ([] ++ kC ks) → w1.ownsRow W0.heap.size 109 3 v1 ks.length (kC ks) := fun w1 v1 h => by
    rw [Nat.zero_add, List.nil_append] at h; exact h
  have hbn : ∀ (w1 : World), (W0.alloc (.cells #[] 109)).grownBy w1 (some W0.heap.size) → Below W0.heap.size W0 w1 := fun w1 h2 => (bel_alloc (Below.refl _ _) _).grown h2 (by simp) (fun k hk => by simp at hk; omega)
  clear hW0 hsz2 fin
  cases A3 with
  | none =>
    have hk0 : ks.length = 0 := by
      rcases Nat.eq_zero_or_pos ks.length with h | h
      · exact h
      · obtain ⟨_, _, e, _⟩ := v3 h; cases e
    have ek : kC ks = [] := by rw [List.eq_nil_of_length_eq_zero hk0]; rfl
    rw [hk0] at x0
    go_upto_region 3 with (at_builtin; refine wpList_append_own_nilc _ rfl (.tmp 5) (.tmp 7) _ rfl W0.heap.size 109 i0 3 Try.underlying25 hi0 (.slice (some ⟨W0.heap.size, 0, none⟩) 0 0) 0 [] rfl hlit.out k3 rfl ?_)
    generalize W0.alloc (.cells #[] 109) = w1 at *
    have hbw := hB1
    have hC2 := hC0.below hbw
    have hR2 := hR0.below hbw
    have cV1 := cV.out w1 hbw
    have hK := hlit.out
    clear rest hC0 hR0 hC1 x0 xl hlit
    have x0 : w1.cell? ⟨W.heap.size, 0, none⟩ = some (.slice A1 vs.length k1) := hC2.cell 0
    have x1 : w1.cell? ⟨W.heap.size, 1, none⟩ = some (.slice A2 fs.length k2) := hC2.cell 1
    have xl := hC2.lt
    clear cV1
    refine wp_region_monoT 8 (RL [PE (.pointer (some ⟨W.heap.size, 0, none⟩)), PE (.slice A1 vs.length k1), PO W0.heap.size vs, PE (.pointer (some ⟨W.heap.size, 1, none⟩)), PE (.slice A2 fs.length k2), PG W0.heap.size fs, PE (.slice (some ⟨W0.heap.size, 0, none⟩) 0 0), PQ W0.heap.size vs fs (some ⟨W0.heap.size, 0, none⟩) 0 0]) (by kernel_rfl) _ rfl (by kernel_rfl) (by kernel_rfl) (by kernel_rfl) (by kernel_rfl) (by kernel_rfl) (RL.stays ?_) ?_ ?_
    · intro p hp
      simp only [List.mem_cons, List.not_mem_nil, or_false] at hp
      rcases hp with rfl | rfl | rfl | rfl | rfl | rfl | rfl | rfl <;> first | exact PE.stays _ | exact PV.stays _ _ _ | exact PO.stays _ _ | exact PG.stays _ _ | exact PQ.stays _ _ _ _ _ _
    · simp only [List.take_succ_cons, List.take_zero]
      refine ⟨?_, ?_, ?_, ?_, ?_, ?_, ?_, ?_, ?_⟩
      · refine mono_val rfl (fun a w hB hk hp => ?_)
        have es1 := (hk 1 (keep_of (by kernel_rfl))).trans (show _ = some (.pointer (some ⟨W.heap.size, 0, none⟩)) from rfl)
        exact ⟨.pointer (some ⟨W.heap.size, 0, none⟩), w, by simp [execOp, go_sem, es1], Below.refl _ _, fun _ _ => rfl⟩
      · refine mono_val rfl (fun a w hB hk hp => ?_)
        obtain ⟨x0, ex0, rx0⟩ := hp ⟨0, .data⟩ (by simp) rfl _ _ rfl rfl
        obtain rfl : x0 = _ := rx0
        have fc0 := (hB.cell (p := ⟨W.heap.size, 0, none⟩) xl).trans x0
        exact ⟨.slice A1 vs.length k1, w, by simp [execOp, go_sem, ex0, fc0], Below.refl _ _, fun _ _ => rfl⟩
      · refine mono_call rfl (fun a w hB hk hp => ?_)
        obtain ⟨x1, ex1, rx1⟩ := hp ⟨1, .data⟩ (by simp) rfl _ _ rfl rfl
        obtain rfl : x1 = _ := rx1
        exact ⟨20, #[.slice A1 vs.length k1], by simp [execOp, go_sem, ex1], (cV.out w (bel_trans hbw hB)).mono fun e w' ⟨B, d, h1, h2, h3⟩ => ⟨_, h1, h3, fun _ _ => ⟨B, d, rfl, own_base h2 (bel_trans hbw hB).size⟩⟩⟩
      · refine mono_val rfl (fun a w hB hk hp => ?_)
        have es1 := (hk 1 (keep_of (by kernel_rfl))).trans (show _ = some (.pointer (some ⟨W.heap.size, 0, none⟩)) from rfl)
        exact ⟨.pointer (some ⟨W.heap.size, 1, none⟩), w, by simp [execOp, go_sem, es1], Below.refl _ _, fun _ _ => rfl⟩
      · refine mono_val rfl (fun a w hB hk hp => ?_)
        obtain ⟨x3, ex3, rx3⟩ := hp ⟨3, .data⟩ (by simp) rfl _ _ rfl rfl
        obtain rfl : x3 = _ := rx3
        have fc0 := (hB.cell (p := ⟨W.heap.size, 1, none⟩) xl).trans x1
        exact ⟨.slice A2 fs.length k2, w, by simp [execOp, go_sem, ex3, fc0], Below.refl _ _, fun _ _ => rfl⟩
      · refine mono_call rfl (fun a w hB hk hp => ?_)
        obtain ⟨x4, ex4, rx4⟩ := hp ⟨4, .data⟩ (by simp) rfl _ _ rfl rfl
        obtain rfl : x4 = _ := rx4
        exact ⟨21, #[.slice A2 fs.length k2], by simp [execOp, go_sem, ex4], (cF.out w (bel_trans hbw hB)).mono fun e w' ⟨B, d, h1, h2, h3⟩ => ⟨_, h1, h3, fun _ _ => ⟨B, d, rfl, h2.base (bel_trans hbw hB).size⟩⟩⟩
      · refine mono_val rfl (fun a w hB hk hp => ?_)
        have es3 := (hk 3 (keep_of (by kernel_rfl))).trans (show _ = some (.slice (some ⟨W0.heap.size, 0, none⟩) 0 0) from rfl)
        exact ⟨.slice (some ⟨W0.heap.size, 0, none⟩) 0 0, w, by simp [execOp, go_sem, es3], Below.refl _ _, fun _ _ => rfl⟩
      · refine mono_val rfl (fun a w hB hk hp => ?_)
        obtain ⟨x2, ex2, rx2⟩ := hp ⟨2, .data⟩ (by simp) rfl _ _ rfl rfl
        obtain ⟨R1, e1, rfl, hr1⟩ : PO W0.heap.size vs w x2 := rx2
        obtain ⟨x5, ex5, rx5⟩ := hp ⟨5, .data⟩ (by simp) rfl _ _ rfl rfl
        obtain ⟨R2, e2, rfl, hr2⟩ : PG W0.heap.size fs w x5 := rx5
        obtain ⟨x6, ex6, rx6⟩ := hp ⟨6, .data⟩ (by simp) rfl _ _ rfl rfl
        obtain rfl : x6 = _ := rx6
        exact ⟨.agg #[.slice R1 vs.length e1, .slice R2 fs.length e2, .slice (some ⟨W0.heap.size, 0, none⟩) 0 0], w, by simp [execOp, go_sem, ex2, ex5, ex6], Below.refl _ _, fun _ _ => ⟨R1, e1, R2, e2, rfl, hr1, hr2⟩⟩
      · trivial
    · intro a w5 hB hsz hdf hk hgot
      obtain ⟨v7, ev7, rv7⟩ := hgot 7 _ 16 rfl rfl
      obtain ⟨R1, e1, R2, e2, rfl, hr1, hr2⟩ : PQ W0.heap.size vs fs (some ⟨W0.heap.size, 0, none⟩) 0 0 w5 v7 := rv7
      obtain ⟨f, hf, rfl⟩ := frame_eq hsz hdf hk [9, 10, 11, 12, 13, 14, 15, 16] (by rfl)
      have f16 := hf 16 _ ev7
      clear hsz hdf hk hgot hf ev7
      simp only [List.drop_succ_cons, List.drop_zero, setAll, List.setIfInBounds_toArray, List.set_cons_succ, List.set_cons_zero, f16]
      clear f16
      generalize f 9 = uu9; generalize f 10 = uu10; generalize f 11 = uu11; generalize f 12 = uu12; generalize f 13 = uu13; generalize f 14 = uu14; generalize f 15 = uu15
      have hB5 := bel_trans hB0 (bel_trans hbw hB)
      have hR5 := hR2.below hB
      have hK5 := own_lay hK hB
      clear x0 x1 xl hC2 hR2 hB hK
      have f0 := hR5.frozen 0
      have f1 := hR5.frozen 1
      have f2 := hR5.frozen 2
      have r0 : w5.cell? ⟨W.heap.size + 1, 0, none⟩ = some (.slice none 0 0) := hR5.cell 0
      have r1 : w5.cell? ⟨W.heap.size + 1, 1, none⟩ = some (.slice none 0 0) := hR5.cell 1
      have r2 : w5.cell? ⟨W.heap.size + 1, 2, none⟩ = some (.slice none 0 0) := hR5.cell 2
      have rl := hR5.lt
      have hE := ((hR5.set 0 (.slice R1 vs.length e1)).set 1 (.slice R2 fs.length e2)).set 2 (.slice (some ⟨W0.heap.size, 0, none⟩) 0 0)
      have hbE := bel_set (bel_set (bel_set hB5 (p := ⟨W.heap.size + 1, 0, none⟩) (by simp) (.slice R1 vs.length e1)) (p := ⟨W.heap.size + 1, 1, none⟩) (by simp) (.slice R2 fs.length e2)) (p := ⟨W.heap.size + 1, 2, none⟩) (by simp) (.slice (some ⟨W0.heap.size, 0, none⟩) 0 0)
      have hgE := ((set_grown w5 (W.heap.size + 1) 0 (.slice R1 vs.length e1)).trans (set_grown _ (W.heap.size + 1) 1 (.slice R2 fs.length e2))).trans (set_grown _ (W.heap.size + 1) 2 (.slice (some ⟨W0.heap.size, 0, none⟩) 0 0))
      have o1 := own_kept hr1 hgE (fun k hk e => by have := (own_block hr1 k hk).1; simp only [Option.some.injEq] at e; omega)
      have o3 := own_kept hK5 hgE (fun k hk e => by have := (own_block hK5 k hk).1; simp only [Option.some.injEq] at e; omega)
      have o2 := hr2.kept hgE (fun k e => by simp only [Option.some.injEq] at e; exact .inl (by omega))
      clear hgE hr1 hr2 hB5 hR5 hK5
      go_wp2
      generalize ((w5.setCell ⟨W.heap.size + 1, 0, none⟩ (.slice R1 vs.length e1)).setCell ⟨W.heap.size + 1, 1, none⟩ (.slice R2 fs.length e2)).setCell ⟨W.heap.size + 1, 2, none⟩ (.slice (some ⟨W0.heap.size, 0, none⟩) 0 0) = WE at *
      have y0 : WE.cell? ⟨W.heap.size + 1, 0, none⟩ = some (.slice R1 vs.length e1) := hE.cell 0
      have y1 : WE.cell? ⟨W.heap.size + 1, 1, none⟩ = some (.slice R2 fs.length e2) := hE.cell 1
      have y2 : WE.cell? ⟨W.heap.size + 1, 2, none⟩ = some (.slice (some ⟨W0.heap.size, 0, none⟩) 0 0) := hE.cell 2
      refine bodyPost_ret (v := .agg #[.slice R1 vs.length e1, .slice R2 fs.length e2, .slice (some ⟨W0.heap.size, 0, none⟩) 0 0]) (by simp [results, Try.results12, go_sem, y0, y1, y2]) rfl ?_
      refine ⟨R1, R2, some ⟨W0.heap.size, 0, none⟩, e1, e2, 0, by first | rfl | rw [hk0], hbE, own_base o1 (by omega), o2.base (by omega), ?_⟩
      first | exact own_base o3 (by omega) | (rw [ek]; exact own_base o3 (by omega)) | (rw [hk0, ek]; exact own_base o3 (by omega))
  | some ad =>
    have hnews : ∀ j u, (kC ks)[j]? = some u → (W0.alloc (.cells #[] 109)).cell? (ad.add j) = some u := by
      rcases Nat.eq_zero_or_pos ks.length with hz | hz
      · obtain rfl := List.eq_nil_of_length_eq_zero hz
        intro j u h; simp [kC] at h
      · have hf := v3b.vf
        obtain ⟨b, off, e, hl, _⟩ := v3b hz
        cases e
        have := hf.news
        rw [newsV_kC] at this
        exact this
    replace hnews := Lib.hid hnews
    go_upto_region 3 with (at_builtin; refine wpList_append_own_at _ rfl (.tmp 5) (.tmp 7) _ rfl W0.heap.size 109 i0 _ 3 24 Try.underlying25 hi0 hz0 hz1 hz2 rfl (by omega) (.slice (some ⟨W0.heap.size, 0, none⟩) 0 0) 0 [] rfl hlit.out ad ks.length k3 (kC ks) rfl (kC_len ks) hnews.out (kC_one ks) (by unfold maxLen; omega) (by omega) (by simp) ?_; intro v1 w1 hown1 hg1 hnil1 hat1)
    have hbw : Below W0.heap.size W0 w1 := hbn w1 hg1
    obtain ⟨B3, d3, rfl, hK⟩ := rest.out w1 v1 (hfix w1 v1 hown1) hbw
    have hC2 := hC0.below hbw
    have hR2 := hR0.below hbw
    have cV1 := cV.out w1 hbw
    clear rest hC0 hR0 hC1 x0 xl
    have x0 : w1.cell? ⟨W.heap.size, 0, none⟩ = some (.slice A1 vs.length k1) := hC2.cell 0
    have x1 : w1.cell? ⟨W.heap.size, 1, none⟩ = some (.slice A2 fs.length k2) := hC2.cell 1
    have xl := hC2.lt
    clear cV1
    refine wp_region_monoT 8 (RL [PE (.pointer (some ⟨W.heap.size, 0, none⟩)), PE (.slice A1 vs.length k1), PO W0.heap.size vs, PE (.pointer (some ⟨W.heap.size, 1, none⟩)), PE (.slice A2 fs.length k2), PG W0.heap.size fs, PE (.slice B3 ks.length d3), PQ W0.heap.size vs fs B3 ks.length d3]) (by kernel_rfl) _ rfl (by kernel_rfl) (by kernel_rfl) (by kernel_rfl) (by kernel_rfl) (by kernel_rfl) (RL.stays ?_) ?_ ?_
    · intro p hp
      simp only [List.mem_cons, List.not_mem_nil, or_false] at hp
      rcases hp with rfl | rfl | rfl | rfl | rfl | rfl | rfl | rfl <;> first | exact PE.stays _ | exact PV.stays _ _ _ | exact PO.stays _ _ | exact PG.stays _ _ | exact PQ.stays _ _ _ _ _ _
    · simp only [List.take_succ_cons, List.take_zero]
      refine ⟨?_, ?_, ?_, ?_, ?_, ?_, ?_, ?_, ?_⟩
      · refine mono_val rfl (fun a w hB hk hp => ?_)
        have es1 := (hk 1 (keep_of (by kernel_rfl))).trans (show _ = some (.pointer (some ⟨W.heap.size, 0, none⟩)) from rfl)
        exact ⟨.pointer (some ⟨W.heap.size, 0, none⟩), w, by simp [execOp, go_sem, es1], Below.refl _ _, fun _ _ => rfl⟩
      · refine mono_val rfl (fun a w hB hk hp => ?_)
        obtain ⟨x0, ex0, rx0⟩ := hp ⟨0, .data⟩ (by simp) rfl _ _ rfl rfl
        obtain rfl : x0 = _ := rx0
        have fc0 := (hB.cell (p := ⟨W.heap.size, 0, none⟩) xl).trans x0
        exact ⟨.slice A1 vs.length k1, w, by simp [execOp, go_sem, ex0, fc0], Below.refl _ _, fun _ _ => rfl⟩
      · refine mono_call rfl (fun a w hB hk hp => ?_)
        obtain ⟨x1, ex1, rx1⟩ := hp ⟨1, .data⟩ (by simp) rfl _ _ rfl rfl
        obtain rfl : x1 = _ := rx1
        exact ⟨20, #[.slice A1 vs.length k1], by simp [execOp, go_sem, ex1], (cV.out w (bel_trans hbw hB)).mono fun e w' ⟨B, d, h1, h2, h3⟩ => ⟨_, h1, h3, fun _ _ => ⟨B, d, rfl, own_base h2 (bel_trans hbw hB).size⟩⟩⟩
      · refine mono_val rfl (fun a w hB hk hp => ?_)
        have es1 := (hk 1 (keep_of (by kernel_rfl))).trans (show _ = some (.pointer (some ⟨W.heap.size, 0, none⟩)) from rfl)
        exact ⟨.pointer (some ⟨W.heap.size, 1, none⟩), w, by simp [execOp, go_sem, es1], Below.refl _ _, fun _ _ => rfl⟩
      · refine mono_val rfl (fun a w hB hk hp => ?_)
        obtain ⟨x3, ex3, rx3⟩ := hp ⟨3, .data⟩ (by simp) rfl _ _ rfl rfl
        obtain rfl : x3 = _ := rx3
        have fc0 := (hB.cell (p := ⟨W.heap.size, 1, none⟩) xl).trans x1
        exact ⟨.slice A2 fs.length k2, w, by simp [execOp, go_sem, ex3, fc0], Below.refl _ _, fun _ _ => rfl⟩
      · refine mono_call rfl (fun a w hB hk hp => ?_)
        obtain ⟨x4, ex4, rx4⟩ := hp ⟨4, .data⟩ (by simp) rfl _ _ rfl rfl
        obtain rfl : x4 = _ := rx4
        exact ⟨21, #[.slice A2 fs.length k2], by simp [execOp, go_sem, ex4], (cF.out w (bel_trans hbw hB)).mono fun e w' ⟨B, d, h1, h2, h3⟩ => ⟨_, h1, h3, fun _ _ => ⟨B, d, rfl, h2.base (bel_trans hbw hB).size⟩⟩⟩
      · refine mono_val rfl (fun a w hB hk hp => ?_)
        have es3 := (hk 3 (keep_of (by kernel_rfl))).trans (show _ = some (.slice B3 ks.length d3) from rfl)
        exact ⟨.slice B3 ks.length d3, w, by simp [execOp, go_sem, es3], Below.refl _ _, fun _ _ => rfl⟩
      · refine mono_val rfl (fun a w hB hk hp => ?_)
        obtain ⟨x2, ex2, rx2⟩ := hp ⟨2, .data⟩ (by simp) rfl _ _ rfl rfl
        obtain ⟨R1, e1, rfl, hr1⟩ : PO W0.heap.size vs w x2 := rx2
        obtain ⟨x5, ex5, rx5⟩ := hp ⟨5, .data⟩ (by simp) rfl _ _ rfl rfl
        obtain ⟨R2, e2, rfl, hr2⟩ : PG W0.heap.size fs w x5 := rx5
        obtain ⟨x6, ex6, rx6⟩ := hp ⟨6, .data⟩ (by simp) rfl _ _ rfl rfl
        obtain rfl : x6 = _ := rx6
        exact ⟨.agg #[.slice R1 vs.length e1, .slice R2 fs.length e2, .slice B3 ks.length d3], w, by simp [execOp, go_sem, ex2, ex5, ex6], Below.refl _ _, fun _ _ => ⟨R1, e1, R2, e2, rfl, hr1, hr2⟩⟩
      · trivial
    · intro a w5 hB hsz hdf hk hgot
      obtain ⟨v7, ev7, rv7⟩ := hgot 7 _ 16 rfl rfl
      obtain ⟨R1, e1, R2, e2, rfl, hr1, hr2⟩ : PQ W0.heap.size vs fs B3 ks.length d3 w5 v7 := rv7
      obtain ⟨f, hf, rfl⟩ := frame_eq hsz hdf hk [9, 10, 11, 12, 13, 14, 15, 16] (by rfl)
      have f16 := hf 16 _ ev7
      clear hsz hdf hk hgot hf ev7
      simp only [List.drop_succ_cons, List.drop_zero, setAll, List.setIfInBounds_toArray, List.set_cons_succ, List.set_cons_zero, f16]
      clear f16
      generalize f 9 = uu9; generalize f 10 = uu10; generalize f 11 = uu11; generalize f 12 = uu12; generalize f 13 = uu13; generalize f 14 = uu14; generalize f 15 = uu15
      have hB5 := bel_trans hB0 (bel_trans hbw hB)
      have hR5 := hR2.below hB
      have hK5 := own_lay hK hB
      clear x0 x1 xl hC2 hR2 hB hK
      have f0 := hR5.frozen 0
      have f1 := hR5.frozen 1
      have f2 := hR5.frozen 2
      have r0 : w5.cell? ⟨W.heap.size + 1, 0, none⟩ = some (.slice none 0 0) := hR5.cell 0
      have r1 : w5.cell? ⟨W.heap.size + 1, 1, none⟩ = some (.slice none 0 0) := hR5.cell 1
      have r2 : w5.cell? ⟨W.heap.size + 1, 2, none⟩ = some (.slice none 0 0) := hR5.cell 2
      have rl := hR5.lt
      have hE := ((hR5.set 0 (.slice R1 vs.length e1)).set 1 (.slice R2 fs.length e2)).set 2 (.slice B3 ks.length d3)
      have hbE := bel_set (bel_set (bel_set hB5 (p := ⟨W.heap.size + 1, 0, none⟩) (by simp) (.slice R1 vs.length e1)) (p := ⟨W.heap.size + 1, 1, none⟩) (by simp) (.slice R2 fs.length e2)) (p := ⟨W.heap.size + 1, 2, none⟩) (by simp) (.slice B3 ks.length d3)
      have hgE := ((set_grown w5 (W.heap.size + 1) 0 (.slice R1 vs.length e1)).trans (set_grown _ (W.heap.size + 1) 1 (.slice R2 fs.length e2))).trans (set_grown _ (W.heap.size + 1) 2 (.slice B3 ks.length d3))
      have o1 := own_kept hr1 hgE (fun k hk e => by have := (own_block hr1 k hk).1; simp only [Option.some.injEq] at e; omega)
      have o3 := own_kept hK5 hgE (fun k hk e => by have := (own_block hK5 k hk).1; simp only [Option.some.injEq] at e; omega)
      have o2 := hr2.kept hgE (fun k e => by simp only [Option.some.injEq] at e; exact .inl (by omega))
      clear hgE hr1 hr2 hK5 hB5 hR5
      go_wp2
      generalize ((w5.setCell ⟨W.heap.size + 1, 0, none⟩ (.slice R1 vs.length e1)).setCell ⟨W.heap.size + 1, 1, none⟩ (.slice R2 fs.length e2)).setCell ⟨W.heap.size + 1, 2, none⟩ (.slice B3 ks.length d3) = WE at *
      have y0 : WE.cell? ⟨W.heap.size + 1, 0, none⟩ = some (.slice R1 vs.length e1) := hE.cell 0
      have y1 : WE.cell? ⟨W.heap.size + 1, 1, none⟩ = some (.slice R2 fs.length e2) := hE.cell 1
      have y2 : WE.cell? ⟨W.heap.size + 1, 2, none⟩ = some (.slice B3 ks.length d3) := hE.cell 2
      refine bodyPost_ret (v := .agg #[.slice R1 vs.length e1, .slice R2 fs.length e2, .slice B3 ks.length d3]) (by simp [results, Try.results12, go_sem, y0, y1, y2]) rfl ?_
      exact ⟨R1, R2, B3, e1, e2, d3, rfl, hbE, own_base o1 (by omega), o2.base (by omega), own_base o3 (by omega)⟩
end Go.Proofs.Ytpdnaceggpdleab
