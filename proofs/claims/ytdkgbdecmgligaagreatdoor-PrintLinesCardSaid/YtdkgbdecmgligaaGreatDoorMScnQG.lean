/- The program's own scene: a line is read; a panic becomes its error. -/
import Derived.Test.YtdkgbdecmgligaaGreatDoorMScnQW
import Derived.Tactics
import Derived.Tactics2
import Derived.Defers
import Derived.Recover
import Derived.Laws.Pointers
import Derived.Test.YtdkgbdecmgligaaGreatDoorScnF
import Derived.Test.YtdkgbdecmgligaaGreatDoorLexP6
import Derived.Deep.RegionHeld3
namespace Go.Proofs.YtdkgbdecmgligaaGreatDoor
open Go.RowKit
set_option linter.unusedVariables false
set_option linter.unusedSimpArgs false
set_option linter.unnecessarySimpa false

theorem pcatch_panicking (p : Addr) (x kk : Int) (older : List PanicEntry) (w : World) (hc : w.cell? p = some (.int .i64 x)) (hz : w.frozen? p = false) :
    CallsD Tryz.prog 55 #[.pointer (some p)] (.panicking ({ v := .iface 37 (.int .i64 kk), recovered := false } :: older)) w fun e u' w' =>
      e = .returned (.tuple #[]) ∧ u' = .panicking ({ v := .iface 37 (.int .i64 kk), recovered := true } :: older) ∧ w' = w.setCell p (.int .i64 kk) := by
  have ht : ∀ w : World, Sem.run Tryz.prog (Instr.typeAssert (Value.iface 37 (Value.int IntKind.i64 kk)) 20 37 false) w = .ok (.int .i64 kk) w := fun w => by kernel_rfl
  refine callsD_of_wpS Tryz.func55 rfl fun c₀ cs hu => ?_
  apply wpS_seq
  apply wpS_region
  simp [wpOpsS, go_sem, recoverD, hu, Tryz.ntmps55, Exit.thenS]
  apply wpS_seq
  apply wpS_region
  simp [wpOpsS, go_sem, Exit.thenS]
  refine wpS_cond (t := true) (by simp [Act.eval, Array.replicate]) ?_
  simp only [if_true]
  apply wpS_region
  simp [wpOpsS, go_sem, ht, hc, hz, bodyPostS, results, Tryz.results55]
theorem pcatch_idle (p : Addr) (w : World) :
    CallsD Tryz.prog 55 #[.pointer (some p)] .returning w fun e u' w' => e = .returned (.tuple #[]) ∧ u' = .returning ∧ w' = w := by
  refine callsD_of_wpS Tryz.func55 rfl fun c₀ cs hu => ?_
  apply wpS_seq
  apply wpS_region
  simp [wpOpsS, go_sem, recoverD, hu, Tryz.ntmps55, Exit.thenS]
  apply wpS_seq
  apply wpS_region
  simp [wpOpsS, go_sem, Exit.thenS]
  refine wpS_cond (t := false) (by simp [Act.eval, Array.replicate]) ?_
  simp only [Bool.false_eq_true, if_false]
  refine wpS_of_wp (wp_skip ?_)
  cases c₀
  simp_all [bodyPostS, results, Tryz.results55]
/-- A line is read, or its error is answered. -/
def readP (g : Nat) (TR : TypeId) (W : World) (r : Except Nat Scn) (e : Ending) (W' : World) : Prop :=
  Below g W W' ∧ (match r with
    | .error k => e = .returned (.int .i64 (k : Int)) ∧ Below W.heap.size W W'
    | .ok sc' => e = .returned (.int .i64 0) ∧ ∃ val', RepV g W' g TR sc' val')
theorem lineP_or {g : Nat} {TR : TypeId} {W W' : World} {r : Except Nat Scn} {e : Ending} (h : lineP g TR W r e W') : Fr g TR W W' ∧ ((∃ k : Nat, r = .error k ∧ e = Ending.panicked [{ v := Value.iface 37 (.int .i64 (k : Int)), recovered := false }] ∧ Below W.heap.size W W') ∨ (∃ sc' val', r = .ok sc' ∧ e = .returned (.tuple #[]) ∧ RepV g W' g TR sc' val')) := by
  refine ⟨h.1, ?_⟩
  obtain ⟨_, h⟩ := h
  cases r with
  | error k => exact .inl ⟨k, rfl, h.1, h.2⟩
  | ok sc' => obtain ⟨h1, v, h2⟩ := h; exact .inr ⟨sc', v, rfl, h1, h2⟩
/-- A cell of an error's variable is stored. -/
theorem RepV.aside {base g : Nat} {W : World} {TR : TypeId} {sc : Scn} {val : Key → Value} (h : RepV base W g TR sc val) {b : Nat} {cs : Array Value} (hb : Blk W b 37 cs) (hT : TR ≠ 37) (i : Nat) (u : Value) : RepV base (W.setCell ⟨b, i, none⟩ u) g TR sc val := by
  have hty : ∀ (x : Option Nat) (T : TypeId), (∀ k, x = some k → ∃ cur, W.heap[k]? = some (.cells cur T (0, 0))) → T ≠ 37 → x ≠ some b := fun x T hx hT e => by
    obtain ⟨cur, q⟩ := hx b e
    have := q.symm.trans hb
    injection this with this
    injection this with _ q2
    exact hT q2
  have own := fun (_ : Nat) (T : TypeId) (sz n : Nat) (v : Value) (xs : List Value) (h : W.ownsRow base T sz v n xs) (hT : T ≠ 37) => hty v.ownBlock T (fun k hk => (own_typed h k hk).2) hT
  have ro := fun (T : TypeId) (n : Nat) (v : Value) (xs : List Value) (h : roRow W base T v n xs) (hT : T ≠ 37) => hty v.ownBlock T (fun k hk => by
    rcases h.2 with ⟨q, _⟩ | ⟨b, off, cap, cur, q, _, hg, _⟩
    · rw [q] at hk; cases hk
    · rw [q] at hk; cases hk; exact ⟨cur, hg⟩) hT
  have hk : ∀ k, (rowsOf sc val k).v.ownBlock ≠ some b := by
    intro k
    have hr := h.own.row k
    cases k with
    | tex i => exact ro _ _ _ _ hr (by simp [rowsOf])
    | frow i j => exact ro _ _ _ _ hr (by simp [rowsOf])
    | lights => exact own 0 _ _ _ _ _ hr (by simp [rowsOf])
    | mats => exact own 0 _ _ _ _ _ hr (by simp [rowsOf])
    | texs => exact own 0 _ _ _ _ _ hr (by simp [rowsOf])
    | skins => exact own 0 _ _ _ _ _ hr (by simp [rowsOf])
    | cages => exact own 0 _ _ _ _ _ hr (by simp [rowsOf])
    | vert i => exact own 0 _ _ _ _ _ hr (by simp [rowsOf])
    | face i => exact own 0 _ _ _ _ _ hr (by simp [rowsOf])
    | crease i => exact own 0 _ _ _ _ _ hr (by simp [rowsOf])
  exact ⟨h.blk.far i u (fun e => hT (by subst e; have := h.blk.symm.trans hb; injection this with this; injection this with _ q2)), h.own.elsewhere hk i u, h.nilT, h.nilV, h.nilF, h.nilC, h.nilR, h.base_le⟩
set_option maxRecDepth 100000 in
set_option maxHeartbeats 2000000 in
theorem pread (W : World) (g n c b off : Nat) (TR : TypeId) (hTR : TR ≠ 37) (sc : Scn) (val : Key → Value) (k : Wd) (ws : List Wd) (hn : ws.length = n) (hl : n ≤ 65537) (hc : n + 1 ≤ c) (hA : SFW W (some ⟨b, off, none⟩) (k :: ws)) (hR : RepV g W g TR sc val) (hT : InvT sc) :
    Calls Tryz.prog 20 #[.pointer (some ⟨g, 0, none⟩), .slice (some ⟨b, off, none⟩) (n + 1) c] W fun e W' => readP g TR W (lineF sc (k :: ws)) e W' := by
  have hmf : ∀ (fn : Fn) (first cap : Array Value) (w : World), (Instr.makeFunc fn first cap).run Tryz.prog w = .ok (.func fn first cap) w := fun _ _ _ _ => rfl
  have hgl := hR.lt
  have hbl : b < W.heap.size := (hA (by simp)).elim fun b2 ⟨off2, q, hb, _⟩ => by cases q; exact hb
  have s0 : W.cell? ⟨b, off, none⟩ = some (.string ⟨k.toArray⟩) := by
    obtain ⟨b2, off2, q, hb, hcc⟩ := hA (by simp)
    cases q
    have := hcc 0 (by simp)
    simpa using this
  have hB1 : Below W.heap.size W (W.alloc (.cells #[.int .i64 0] 37)) := bel_alloc (Below.refl _ _) _
  have KB : Blk (W.alloc (.cells #[.int .i64 0] 37)) W.heap.size 37 #[.int .i64 0] := Blk.new _ _ _ _ rfl
  have CT := Lib.hid (fun (x : More) (A : Option Addr) (hA : SFW (grow (W.alloc (.cells #[.int .i64 0] 37)) x) A ws) => ptake (grow (W.alloc (.cells #[.int .i64 0] 37)) x) g n (c - 1) A TR sc val k ws hn hl (by omega) hA ((hR.below hB1).grow x) hT)
  have HTL := Lib.hid (show ∀ W', Below W.heap.size W W' → SFW W' (if c = 1 then some ⟨b, off, none⟩ else some ⟨b, off + 1, none⟩) ws from fun W' hb => by
    split
    · intro h0; omega
    · exact (hA.tail).below hb)
  clear hA hR
  go_enter_defers Tryz.func20, Tryz.ntmps20
  have hc0 : (1 : Int) ≤ (n : Int) + 1 := by omega
  have hcN : 1 ≤ n + 1 := by omega
  have hcI : (0 : Int) < (n : Int) + 1 := by omega
  go_wp2_with fail
  refine wp_region_tail 6 ?_ (by kernel_rfl) (by kernel_rfl) (by kernel_rfl) (fun x => ?_) (fun x => ?_)
  rotate_left
  · simp only [List.take_succ_cons, List.take_zero]
    repeat (go_big_quiet_step ((fail)))
    refine wpQuiet_nil ?_
    exact rfl
  simp only [List.drop_succ_cons, List.drop_zero]
  try simp only [Act.put, List.setIfInBounds_toArray, List.set_cons_succ, List.set_cons_zero]
  go_wp2_with (go_at_call 56; (refine (CT.out _ _ (HTL.out _ (by repeat (first | with_reducible exact Below.refl _ _ | with_reducible refine bel_then ?_ _ | with_reducible refine bel_grow ?_ _ | with_reducible refine bel_alloc ?_ _ | with_reducible refine bel_drew ?_ | with_reducible refine bel_set ?_ (by simp) _ | with_reducible refine bel_setRow ?_ (by first | omega | (simp; done)) _)))).mono ?_); rintro e W2 hp; obtain ⟨hF, hp⟩ := lineP_or hp; have hB2 : Below g W W2 := ((hB1.mono (Nat.le_of_lt hgl)).trans ((Below.mono (show Below (W.alloc (.cells #[.int .i64 0] 37)).heap.size _ _ from (show Below _ _ (grow _ _) from More.kept _ _)) (by simp; omega)))).trans hF.1; have KB2 : Blk W2 W.heap.size 37 #[.int .i64 0] := (hF.2 hTR _ _ (KB.grow _)).trans (KB.grow _); have k2 : W2.cell? ⟨W.heap.size, 0, none⟩ = some (.int .i64 0) := KB2.cell 0; have z2 := KB2.frozen 0; rcases hp with ⟨kk, hr, rfl, hfb⟩ | ⟨sc', val', hr, rfl, hR2⟩)
  all_goals have hgk : g ≤ W.heap.size := Nat.le_of_lt hgl
  iterate 2
    · refine leaves_cons (f := 55) (args := #[.pointer (some ⟨W.heap.size, 0, none⟩)]) (by simp) (by simp [go_sem]) ?_
      refine (pcatch_panicking ⟨W.heap.size, 0, none⟩ 0 kk [] _ k2 z2).mono ?_
      rintro e u' w'' ⟨rfl, rfl, rfl⟩
      have k3 : (W2.setCell ⟨W.heap.size, 0, none⟩ (.int .i64 (kk : Int))).cell? ⟨W.heap.size, 0, none⟩ = some (.int .i64 (kk : Int)) := (KB2.set 0 _).cell 0
      have hend : readP g TR W (.error kk) (.returned (.int .i64 (kk : Int))) (W2.setCell ⟨W.heap.size, 0, none⟩ (.int .i64 (kk : Int))) := ⟨hB2.setCell hgk _, rfl, bel_set (bel_trans hB1 (bel_trans (show Below _ _ (grow _ _) from More.kept _ _) hfb)) (Nat.le_refl _) _⟩
      simp [Leaves, settle, results, Tryz.results20, go_sem, k3]
      exact hend
  iterate 2
    · refine leaves_cons (f := 55) (args := #[.pointer (some ⟨W.heap.size, 0, none⟩)]) (by simp) (by simp [go_sem]) ?_
      refine (pcatch_idle ⟨W.heap.size, 0, none⟩ _).mono ?_
      rintro e u' w'' ⟨rfl, rfl, rfl⟩
      have k3 : (W2.setCell ⟨W.heap.size, 0, none⟩ (.int .i64 0)).cell? ⟨W.heap.size, 0, none⟩ = some (.int .i64 0) := (KB2.set 0 _).cell 0
      have hend : readP g TR W (.ok sc') (.returned (.int .i64 0)) (W2.setCell ⟨W.heap.size, 0, none⟩ (.int .i64 0)) := ⟨hB2.setCell hgk _, rfl, val', hR2.aside KB2 hTR 0 _⟩
      simp [Leaves, settle, results, Tryz.results20, go_sem, k3]
      exact hend
end Go.Proofs.YtdkgbdecmgligaaGreatDoor

/- The program's own scene: a text is read. -/
namespace Go.Proofs.YtdkgbdecmgligaaGreatDoor
open Go.RowKit
set_option linter.unusedVariables false
set_option linter.unusedSimpArgs false
set_option linter.unnecessarySimpa false

def scZ : Array Value := #[.int .i64 0, .int .i64 0, .int .i64 0, .int .i64 0, .int .i64 0, .int .i64 0, .int .i64 0, .int .i64 0, .int .i64 0, .int .i64 0, .int .i64 0, .int .i64 0, .int .i64 0, .int .i64 0, .int .i64 0, .int .i64 0, .int .i64 0, .int .i64 0, .int .i64 0, .slice none 0 0, .slice none 0 0, .slice none 0 0, .slice none 0 0, .slice none 0 0]
/-- A scene's value. -/
def sceneV (sc : Scn) (val : Key → Value) : Array Value := #[.int .i64 ((camN sc).getD 0 0), .int .i64 ((camN sc).getD 1 0), .int .i64 ((camN sc).getD 2 0), .int .i64 ((camN sc).getD 3 0), .int .i64 ((camN sc).getD 4 0), .int .i64 ((camN sc).getD 5 0), .int .i64 ((camN sc).getD 6 0), .int .i64 ((camN sc).getD 7 0), .int .i64 ((camN sc).getD 8 0), .int .i64 ((camN sc).getD 9 0), .int .i64 ((camN sc).getD 10 0), .int .i64 ((camN sc).getD 11 0), .int .i64 ((camN sc).getD 12 0), .int .i64 ((camN sc).getD 13 0), .int .i64 ((camN sc).getD 14 0), .int .i64 ((camN sc).getD 15 0), .int .i64 ((skyN sc).getD 0 0), .int .i64 ((skyN sc).getD 1 0), .int .i64 ((skyN sc).getD 2 0), val .lights, val .mats, val .texs, val .skins, val .cages]
def parsePost (w : World) (l : List UInt8) (e : Ending) (w' : World) : Prop := Below w.heap.size w w' ∧ match sceneT l with
  | .error (n, k) => e = .returned (.tuple #[.agg scZ, .int .i64 (n : Int), .int .i64 (k : Int)])
  | .ok sc => ∃ g val, e = .returned (.tuple #[.agg (sceneV sc val), .int .i64 0, .int .i64 0]) ∧ w.heap.size ≤ g ∧ RepV g w' g 70 sc val
theorem rows0 (k : Key) : (rowsOf scn0 (fun _ => vNil) k).v = vNil := by cases k <;> rfl
theorem repV_new (W : World) : RepV W.heap.size (W.alloc (.cells #[.int .i64 0, .int .i64 0, .int .i64 0, .int .i64 0, .int .i64 0, .int .i64 0, .int .i64 0, .int .i64 0, .int .i64 0, .int .i64 0, .int .i64 0, .int .i64 0, .int .i64 0, .int .i64 0, .int .i64 0, .int .i64 0, .int .i64 0, .int .i64 0, .int .i64 0, .slice none 0 0, .slice none 0 0, .slice none 0 0, .slice none 0 0, .slice none 0 0, .bool false, .bool false] 70)) W.heap.size 70 scn0 (fun _ => vNil) := by
  refine ⟨Blk.new _ _ _ _ rfl, ⟨fun k => ?_, fun j k h => .inl (by rw [rows0]; rfl), fun k => by rw [rows0]; simp [vNil, Value.ownBlock]⟩, fun _ _ => rfl, fun _ _ => rfl, fun _ _ => rfl, fun _ _ => rfl, fun _ _ _ => rfl, Nat.le_refl _⟩
  cases k <;> simp only [rowsOf, Rw.own_rw, Rw.own_ro] <;> (refine ⟨?_, .inl ⟨rfl, ?_⟩⟩ <;> simp [scn0, texSS, cageSS, texAt, cageAt, i64s, flat3])
theorem SFW_of_own {W : World} {base : Nat} {b n c : Nat} {l : List Wd} (h : W.ownsRow base 9 1 (.slice (some ⟨b, 0, none⟩) n c) n (strs l)) (hn : l.length = n) : SFW W (some ⟨b, 0, none⟩) l := fun h0 => by
  refine ⟨b, 0, rfl, (h.lt b rfl).2, fun i hi => ?_⟩
  rw [Nat.zero_add, h.cellAt i (by omega), strs_get l i hi]
  simp [List.getD, hi]
theorem own_cap {W : World} {base : Nat} {T : TypeId} {n : Nat} {v : Value} {xs : List Value} (h : W.ownsRow base T 1 v n xs) (hn : 0 < n) : ∃ b c, v = .slice (some ⟨b, 0, none⟩) n c ∧ n ≤ c ∧ b < W.heap.size := by
  rcases h.2 with ⟨_, q⟩ | ⟨b, c, cur, q1, q2, q3, q4, _⟩
  · omega
  · exact ⟨b, c, q1, q4, (Array.getElem?_eq_some_iff.1 q3).1⟩
theorem runS_snoc (sc : Scn) (l : List (Nat × List Wd)) (q : Nat × List Wd) : runS sc (l ++ [q]) = match runS sc l with | .error e => .error e | .ok sc' => (match lineF sc' q.2 with | .error e => .error (q.1, e) | .ok sc'' => .ok sc'') := by
  rw [runS_app]
  cases runS sc l with
  | error e => rfl
  | ok sc' => simp only [runS]; cases lineF sc' q.2 <;> rfl
theorem runS_stop {sc sc' : Scn} {l m : List (Nat × List Wd)} {q : Nat × List Wd} {k : Nat} (h : runS sc l = .ok sc') (he : lineF sc' q.2 = .error k) : runS sc (l ++ q :: m) = .error (q.1, k) := by
  rw [runS_app, h]
  simp only [runS, he]
theorem lines_or {w : World} {P : List (List UInt8)} {e : Ending} {w' : World} (h : linesPost w P e w') : Below w.heap.size w w' ∧ ((∃ n : Nat, linesP 1 [] P = .error n ∧ e = .returned (.tuple #[.slice none 0 0, .int .i64 (n : Int), .int .i64 10])) ∨ (∃ A c ls, linesP 1 [] P = .ok (outOf ls) ∧ e = .returned (.tuple #[.slice A ls.length c, .int .i64 0, .int .i64 0]) ∧ LNS w' w.heap.size (.slice A ls.length c) ls)) := by
  refine ⟨h.1, ?_⟩
  obtain ⟨_, h⟩ := h
  cases q : linesP 1 [] P with
  | error n => rw [q] at h; exact .inl ⟨n, rfl, h⟩
  | ok o =>
    rw [q] at h
    obtain ⟨v, ls, h1, h2, h3⟩ := h
    obtain ⟨A, c, rfl⟩ := own_form h2.1
    exact .inr ⟨A, c, ls, by rw [h3], h1, h2⟩

theorem alloc_Scene (a : Act) (o : Oper) (ho : o.op = .alloc 34) (w : World) : (execOp a.eval o).run Tryz.prog w = .ok (.value (.pointer (some ⟨w.heap.size, 0, none⟩))) (w.alloc (.cells scZ 34)) := by
  unfold execOp
  rw [ho]
  kernel_rfl
theorem alloc_reader (a : Act) (o : Oper) (ho : o.op = .alloc 70) (w : World) : (execOp a.eval o).run Tryz.prog w = .ok (.value (.pointer (some ⟨w.heap.size, 0, none⟩))) (w.alloc (.cells (rcells scn0 fun _ => vNil) 70)) := by
  unfold execOp
  rw [ho]
  kernel_rfl
theorem build_Scene (a : Act) (o : Oper) (ho : o.op = .build 34 #[]) (w : World) : (execOp a.eval o).run Tryz.prog w = .ok (.value (.agg scZ)) w := by
  unfold execOp
  rw [ho]
  kernel_rfl
theorem infoSc : (Tryz.prog.info? 34).map (·.size) = some 24 := by kernel_rfl
theorem scZ_size : scZ.size = 24 := rfl
theorem scZ_one : scZ.all (·.oneCell') = true := by kernel_rfl
theorem scV_size (sc : Scn) (val : Key → Value) : (sceneV sc val).size = 24 := rfl
theorem own_max {W : World} {base : Nat} {T : TypeId} {sz n : Nat} {v : Value} {xs : List Value} (h : W.ownsRow base T sz v n xs) : n ≤ 9223372036854775807 := by
  rcases h.2 with ⟨_, q⟩ | ⟨b, c, cur, q1, q2, q3, q4, q5, _⟩
  · omega
  · unfold maxLen at q5; omega
theorem repV_new2 (W : World) : RepV W.heap.size (W.alloc (.cells (rcells scn0 fun _ => vNil) 70)) W.heap.size 70 scn0 (fun _ => vNil) := repV_new W
theorem readP_or {g : Nat} {TR : TypeId} {W W' : World} {r : Except Nat Scn} {e : Ending} (h : readP g TR W r e W') : Below g W W' ∧ ((∃ k : Nat, r = .error k ∧ e = .returned (.int .i64 (k : Int)) ∧ Below W.heap.size W W') ∨ (∃ sc' val', r = .ok sc' ∧ e = .returned (.int .i64 0) ∧ RepV g W' g TR sc' val')) := by
  refine ⟨h.1, ?_⟩
  obtain ⟨_, h⟩ := h
  cases r with
  | error k => exact .inl ⟨k, rfl, h.1, h.2⟩
  | ok sc' => obtain ⟨h1, v, h2⟩ := h; exact .inr ⟨sc', v, rfl, h1, h2⟩
theorem wpAnyH_store {P : Program} {md : Region.Mode} {ops : Array Oper} {Q : Exit → Act → World → Prop} {S : World → Prop} {fuel i : Nat} {oi : Oper} {listed : Array Bool} {a : Act} {w w' : World} (hr : Region.ready md ops listed = [i]) (hi : ops[i]? = some oi) (hg : oi.guard = none) (hrun : (execOp a.eval oi).run P w = .ok .skip w') (hS : S w')
    (h : wpAnyH P md ops Q S fuel (listed.setIfInBounds i true) (a.put oi.dst undef) w') : wpAnyH P md ops Q S (fuel + 1) listed a w := by
  refine ⟨fun h0 => (by rw [hr] at h0; cases h0), fun j hj => ?_⟩
  rw [hr] at hj
  obtain rfl : j = i := by simpa using hj
  unfold wpOp
  simp only [hi]
  rw [if_pos (by simp [Region.wanted, hg])]
  left
  unfold Oper.wp
  rw [hrun]
  exact ⟨hS, h⟩
theorem RepV.range {base g : Nat} {W : World} {T : TypeId} {sc : Scn} {val : Key → Value} (h : RepV base W g T sc val) : W.rangeAt g 0 (sceneV sc val).toList := by
  intro j v hv
  rw [Nat.zero_add, h.blk.cell j]
  have e : rcells sc val = sceneV sc val ++ #[.bool sc.cam.isSome, .bool sc.sky.isSome] := rfl
  have hj : j < (sceneV sc val).size := by
    have := (List.getElem?_eq_some_iff.1 hv).1
    simpa using this
  rw [e, Array.getElem?_append_left hj]
  simpa using hv
theorem RepV.one {base g : Nat} {W : World} {T : TypeId} {sc : Scn} {val : Key → Value} (h : RepV base W g T sc val) : (sceneV sc val).toList.toArray.all (·.oneCell') = true := by
  obtain ⟨_, _, e1⟩ := own_form (show W.ownsRow base 76 6 (val .lights) _ _ from h.own.row .lights)
  obtain ⟨_, _, e2⟩ := own_form (show W.ownsRow base 53 9 (val .mats) _ _ from h.own.row .mats)
  obtain ⟨_, _, e3⟩ := own_form (show W.ownsRow base 51 4 (val .texs) _ _ from h.own.row .texs)
  obtain ⟨_, _, e4⟩ := own_form (show W.ownsRow base 55 6 (val .skins) _ _ from h.own.row .skins)
  obtain ⟨_, _, e5⟩ := own_form (show W.ownsRow base 48 3 (val .cages) _ _ from h.own.row .cages)
  unfold sceneV
  rw [e1, e2, e3, e4, e5]
  simp [Value.oneCell']
/-- The answer's variable is stored whole. -/
theorem RepV.asideRow {base g : Nat} {W : World} {sc : Scn} {val : Key → Value} (h : RepV base W g 70 sc val) {b : Nat} {cs cs' : Array Value} (hb : Blk W b 34 cs) : RepV base (W.setRow b cs') g 70 sc val := by
  have hty : ∀ (x : Option Nat) (T : TypeId), (∀ k, x = some k → ∃ cur, W.heap[k]? = some (.cells cur T (0, 0))) → T ≠ 34 → x ≠ some b := fun x T hx hT e => by
    obtain ⟨cur, q⟩ := hx b e
    have := q.symm.trans hb
    injection this with this
    injection this with _ q2
    exact hT q2
  have own := fun (_ : Nat) (T : TypeId) (sz n : Nat) (v : Value) (xs : List Value) (h : W.ownsRow base T sz v n xs) (hT : T ≠ 34) => hty v.ownBlock T (fun k hk => (own_typed h k hk).2) hT
  have ro := fun (T : TypeId) (n : Nat) (v : Value) (xs : List Value) (h : roRow W base T v n xs) (hT : T ≠ 34) => hty v.ownBlock T (fun k hk => by
    rcases h.2 with ⟨q, _⟩ | ⟨b, off, cap, cur, q, _, hg, _⟩
    · rw [q] at hk; cases hk
    · rw [q] at hk; cases hk; exact ⟨cur, hg⟩) hT
  have hk : ∀ k, (rowsOf sc val k).v.ownBlock ≠ some b := by
    intro k
    have hr := h.own.row k
    cases k with
    | tex i => exact ro _ _ _ _ hr (by simp [rowsOf])
    | frow i j => exact ro _ _ _ _ hr (by simp [rowsOf])
    | lights => exact own 0 _ _ _ _ _ hr (by simp [rowsOf])
    | mats => exact own 0 _ _ _ _ _ hr (by simp [rowsOf])
    | texs => exact own 0 _ _ _ _ _ hr (by simp [rowsOf])
    | skins => exact own 0 _ _ _ _ _ hr (by simp [rowsOf])
    | cages => exact own 0 _ _ _ _ _ hr (by simp [rowsOf])
    | vert i => exact own 0 _ _ _ _ _ hr (by simp [rowsOf])
    | face i => exact own 0 _ _ _ _ _ hr (by simp [rowsOf])
    | crease i => exact own 0 _ _ _ _ _ hr (by simp [rowsOf])
  have hne : b ≠ g := fun e => by
    subst e
    have := h.blk.symm.trans hb
    injection this with this
    injection this with _ q2
    revert q2; decide
  have hgr : W.grownBy (W.setRow b cs') (some b) := ⟨rfl, rfl, rfl, by simp, fun j _ hj => setRow_other W b j cs' (fun e => hj (by rw [e]))⟩
  exact ⟨h.blk.farRow cs' hne, ⟨fun k => (h.own.row k).kept hgr (.inr (hk k)), h.own.apart, h.own.off⟩, h.nilT, h.nilV, h.nilF, h.nilC, h.nilR, h.base_le⟩
/-- The answer's own variable is read. -/
theorem res_scene (W : World) (b : Nat) (cs : Array Value) (n k : Int) (tmps : Array Value) (h : Blk W b 34 cs) (hs : cs.size = 24) (h2 : tmps[2]? = some (.pointer (some ⟨b, 0, none⟩))) (h3 : tmps[3]? = some (.int .i64 n)) (h4 : tmps[4]? = some (.int .i64 k)) :
    (results Tryz.f11 tmps).run Tryz.prog W = .ok (.tuple #[.agg cs, .int .i64 n, .int .i64 k]) W := by
  have hl := run_loadVar_row (P := Tryz.prog) W b 34 34 cs (0, 0) _ h Tryz.underlying34 rfl (by rw [hs]; exact infoSc)
  have ha : Sem.run Tryz.prog (asAddr (Value.pointer (some ⟨b, 0, none⟩))) W = .ok ⟨b, 0, none⟩ W := rfl
  simp [results, Tryz.results11, h2, h3, h4, hl, ha]

end Go.Proofs.YtdkgbdecmgligaaGreatDoor
