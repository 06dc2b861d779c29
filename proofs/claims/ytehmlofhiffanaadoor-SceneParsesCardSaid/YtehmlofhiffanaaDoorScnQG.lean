/- The program's own scene: a line is read; a panic becomes its error. -/
import Derived.Test.YtehmlofhiffanaaDoorMScnQW
import Derived.Tactics
import Derived.Tactics2
import Derived.Defers
import Derived.Recover
import Derived.Laws.Pointers
namespace Go.Proofs.YtehmlofhiffanaaDoor
open Go.RowKit
set_option linter.unusedVariables false
set_option linter.unusedSimpArgs false
set_option linter.unnecessarySimpa false

theorem pcatch_panicking (p : Addr) (x kk : Int) (older : List PanicEntry) (w : World) (hc : w.cell? p = some (.int .i64 x)) (hz : w.frozen? p = false) :
    CallsD Tryd.prog 20 #[.pointer (some p)] (.panicking ({ v := .iface 36 (.int .i64 kk), recovered := false } :: older)) w fun e u' w' =>
      e = .returned (.tuple #[]) ∧ u' = .panicking ({ v := .iface 36 (.int .i64 kk), recovered := true } :: older) ∧ w' = w.setCell p (.int .i64 kk) := by
  have ht : ∀ w : World, Sem.run Tryd.prog (Instr.typeAssert (Value.iface 36 (Value.int IntKind.i64 kk)) 20 36 false) w = .ok (.int .i64 kk) w := fun w => by kernel_rfl
  refine callsD_of_wpS Tryd.func20 rfl fun c₀ cs hu => ?_
  apply wpS_seq
  apply wpS_region
  simp [wpOpsS, go_sem, recoverD, hu, Tryd.ntmps20, Exit.thenS]
  apply wpS_seq
  apply wpS_region
  simp [wpOpsS, go_sem, Exit.thenS]
  refine wpS_cond (t := true) (by simp [Act.eval, Array.replicate]) ?_
  simp only [if_true]
  apply wpS_region
  simp [wpOpsS, go_sem, ht, hc, hz, bodyPostS, results, Tryd.results20]
theorem pcatch_idle (p : Addr) (w : World) :
    CallsD Tryd.prog 20 #[.pointer (some p)] .returning w fun e u' w' => e = .returned (.tuple #[]) ∧ u' = .returning ∧ w' = w := by
  refine callsD_of_wpS Tryd.func20 rfl fun c₀ cs hu => ?_
  apply wpS_seq
  apply wpS_region
  simp [wpOpsS, go_sem, recoverD, hu, Tryd.ntmps20, Exit.thenS]
  apply wpS_seq
  apply wpS_region
  simp [wpOpsS, go_sem, Exit.thenS]
  refine wpS_cond (t := false) (by simp [Act.eval, Array.replicate]) ?_
  simp only [Bool.false_eq_true, if_false]
  refine wpS_of_wp (wp_skip ?_)
  cases c₀
  simp_all [bodyPostS, results, Tryd.results20]
/-- A line is read, or its error is answered. -/
def readP (g : Nat) (TR : TypeId) (W : World) (r : Except Nat Scn) (e : Ending) (W' : World) : Prop :=
  Below g W W' ∧ (match r with
    | .error k => e = .returned (.int .i64 (k : Int)) ∧ Below W.heap.size W W'
    | .ok sc' => e = .returned (.int .i64 0) ∧ ∃ val', RepV g W' g TR sc' val')
theorem lineP_or {g : Nat} {TR : TypeId} {W W' : World} {r : Except Nat Scn} {e : Ending} (h : lineP g TR W r e W') : Fr g TR W W' ∧ ((∃ k : Nat, r = .error k ∧ e = Ending.panicked [{ v := Value.iface 36 (.int .i64 (k : Int)), recovered := false }] ∧ Below W.heap.size W W') ∨ (∃ sc' val', r = .ok sc' ∧ e = .returned (.tuple #[]) ∧ RepV g W' g TR sc' val')) := by
  refine ⟨h.1, ?_⟩
  obtain ⟨_, h⟩ := h
  cases r with
  | error k => exact .inl ⟨k, rfl, h.1, h.2⟩
  | ok sc' => obtain ⟨h1, v, h2⟩ := h; exact .inr ⟨sc', v, rfl, h1, h2⟩
/-- A cell of an error's variable is stored. -/
theorem RepV.aside {base g : Nat} {W : World} {TR : TypeId} {sc : Scn} {val : Key → Value} (h : RepV base W g TR sc val) {b : Nat} {cs : Array Value} (hb : Blk W b 36 cs) (hT : TR ≠ 36) (i : Nat) (u : Value) : RepV base (W.setCell ⟨b, i, none⟩ u) g TR sc val := by
  have hty : ∀ (x : Option Nat) (T : TypeId), (∀ k, x = some k → ∃ cur, W.heap[k]? = some (.cells cur T (0, 0))) → T ≠ 36 → x ≠ some b := fun x T hx hT e => by
    obtain ⟨cur, q⟩ := hx b e
    have := q.symm.trans hb
    injection this with this
    injection this with _ q2
    exact hT q2
  have own := fun (_ : Nat) (T : TypeId) (sz n : Nat) (v : Value) (xs : List Value) (h : W.ownsRow base T sz v n xs) (hT : T ≠ 36) => hty v.ownBlock T (fun k hk => (own_typed h k hk).2) hT
  have ro := fun (T : TypeId) (n : Nat) (v : Value) (xs : List Value) (h : roRow W base T v n xs) (hT : T ≠ 36) => hty v.ownBlock T (fun k hk => by
    rcases h.2 with ⟨q, _⟩ | ⟨b, off, cap, cur, q, _, hg, _⟩
    · rw [q] at hk; cases hk
    · rw [q] at hk; cases hk; exact ⟨cur, hg⟩) hT
  have hk : ∀ k, (rowsOf sc val k).v.ownBlock ≠ some b := by
    intro k
    have hr := h.own.row k
    cases k with
    | tex i => exact ro _ _ _ _ hr (by simp [rowsOf])
    | frow i j => exact ro _ _ _ _ hr (by simp [rowsOf])
    | lights => exact own 0 _ _ _ _ _ hr (by simp [rowsOf])
    | mats => exact own 0 _ _ _ _ _ hr (by simp [rowsOf])
    | texs => exact own 0 _ _ _ _ _ hr (by simp [rowsOf])
    | skins => exact own 0 _ _ _ _ _ hr (by simp [rowsOf])
    | cages => exact own 0 _ _ _ _ _ hr (by simp [rowsOf])
    | vert i => exact own 0 _ _ _ _ _ hr (by simp [rowsOf])
    | face i => exact own 0 _ _ _ _ _ hr (by simp [rowsOf])
    | crease i => exact own 0 _ _ _ _ _ hr (by simp [rowsOf])
  exact ⟨h.blk.far i u (fun e => hT (by subst e; have := h.blk.symm.trans hb; injection this with this; injection this with _ q2)), h.own.elsewhere hk i u, h.nilT, h.nilV, h.nilF, h.nilC, h.nilR, h.base_le⟩
set_option maxRecDepth 100000 in
set_option maxHeartbeats 2000000 in
theorem pread (W : World) (g n c b off : Nat) (TR : TypeId) (hTR : TR ≠ 36) (sc : Scn) (val : Key → Value) (k : Wd) (ws : List Wd) (hn : ws.length = n) (hl : n ≤ 65537) (hc : n + 1 ≤ c) (hA : SFW W (some ⟨b, off, none⟩) (k :: ws)) (hR : RepV g W g TR sc val) (hT : InvT sc) :
    Calls Tryd.prog 12 #[.pointer (some ⟨g, 0, none⟩), .slice (some ⟨b, off, none⟩) (n + 1) c] W fun e W' => readP g TR W (lineF sc (k :: ws)) e W' := by
  have hmf : ∀ (fn : Fn) (first cap : Array Value) (w : World), (Instr.makeFunc fn first cap).run Tryd.prog w = .ok (.func fn first cap) w := fun _ _ _ _ => rfl
  have hgl := hR.lt
  have hbl : b < W.heap.size := (hA (by simp)).elim fun b2 ⟨off2, q, hb, _⟩ => by cases q; exact hb
  have s0 : W.cell? ⟨b, off, none⟩ = some (.string ⟨k.toArray⟩) := by
    obtain ⟨b2, off2, q, hb, hcc⟩ := hA (by simp)
    cases q
    have := hcc 0 (by simp)
    simpa using this
  have hB1 : Below W.heap.size W (W.alloc (.cells #[.int .i64 0] 36)) := bel_alloc (Below.refl _ _) _
  have KB : Blk (W.alloc (.cells #[.int .i64 0] 36)) W.heap.size 36 #[.int .i64 0] := Blk.new _ _ _ _ rfl
  have CT := Lib.hid (fun (x : More) (A : Option Addr) (hA : SFW (grow (W.alloc (.cells #[.int .i64 0] 36)) x) A ws) => ptake (grow (W.alloc (.cells #[.int .i64 0] 36)) x) g n (c - 1) A TR sc val k ws hn hl (by omega) hA ((hR.below hB1).grow x) hT)
  have HTL := Lib.hid (show ∀ W', Below W.heap.size W W' → SFW W' (if c = 1 then some ⟨b, off, none⟩ else some ⟨b, off + 1, none⟩) ws from fun W' hb => by
    split
    · intro h0; omega
    · exact (hA.tail).below hb)
  clear hA hR
  go_enter_defers Tryd.func12, Tryd.ntmps12
  have hc0 : (1 : Int) ≤ (n : Int) + 1 := by omega
  have hcN : 1 ≤ n + 1 := by omega
  have hcI : (0 : Int) < (n : Int) + 1 := by omega
  go_wp2_with fail
  refine wp_region_tail 6 ?_ (by kernel_rfl) (by kernel_rfl) (by kernel_rfl) (fun x => ?_) (fun x => ?_)
  rotate_left
  · simp only [List.take_succ_cons, List.take_zero]
    repeat (go_big_quiet_step ((fail)))
    refine wpQuiet_nil ?_
    exact rfl
  simp only [List.drop_succ_cons, List.drop_zero]
  try simp only [Act.put, List.setIfInBounds_toArray, List.set_cons_succ, List.set_cons_zero]
  go_wp2_with (go_at_call 21; (refine (CT.out _ _ (HTL.out _ (by repeat (first | with_reducible exact Below.refl _ _ | with_reducible refine bel_then ?_ _ | with_reducible refine bel_grow ?_ _ | with_reducible refine bel_alloc ?_ _ | with_reducible refine bel_drew ?_ | with_reducible refine bel_set ?_ (by simp) _ | with_reducible refine bel_setRow ?_ (by first | omega | (simp; done)) _)))).mono ?_); rintro e W2 hp; obtain ⟨hF, hp⟩ := lineP_or hp; have hB2 : Below g W W2 := ((hB1.mono (Nat.le_of_lt hgl)).trans ((Below.mono (show Below (W.alloc (.cells #[.int .i64 0] 36)).heap.size _ _ from (show Below _ _ (grow _ _) from More.kept _ _)) (by simp; omega)))).trans hF.1; have KB2 : Blk W2 W.heap.size 36 #[.int .i64 0] := (hF.2 hTR _ _ (KB.grow _)).trans (KB.grow _); have k2 : W2.cell? ⟨W.heap.size, 0, none⟩ = some (.int .i64 0) := KB2.cell 0; have z2 := KB2.frozen 0; rcases hp with ⟨kk, hr, rfl, hfb⟩ | ⟨sc', val', hr, rfl, hR2⟩)
  all_goals have hgk : g ≤ W.heap.size := Nat.le_of_lt hgl
  iterate 2
    · refine leaves_cons (f := 20) (args := #[.pointer (some ⟨W.heap.size, 0, none⟩)]) (by simp) (by simp [go_sem]) ?_
      refine (pcatch_panicking ⟨W.heap.size, 0, none⟩ 0 kk [] _ k2 z2).mono ?_
      rintro e u' w'' ⟨rfl, rfl, rfl⟩
      have k3 : (W2.setCell ⟨W.heap.size, 0, none⟩ (.int .i64 (kk : Int))).cell? ⟨W.heap.size, 0, none⟩ = some (.int .i64 (kk : Int)) := (KB2.set 0 _).cell 0
      have hend : readP g TR W (.error kk) (.returned (.int .i64 (kk : Int))) (W2.setCell ⟨W.heap.size, 0, none⟩ (.int .i64 (kk : Int))) := ⟨hB2.setCell hgk _, rfl, bel_set (bel_trans hB1 (bel_trans (show Below _ _ (grow _ _) from More.kept _ _) hfb)) (Nat.le_refl _) _⟩
      simp [Leaves, settle, results, Tryd.results12, go_sem, k3]
      exact hend
  iterate 2
    · refine leaves_cons (f := 20) (args := #[.pointer (some ⟨W.heap.size, 0, none⟩)]) (by simp) (by simp [go_sem]) ?_
      refine (pcatch_idle ⟨W.heap.size, 0, none⟩ _).mono ?_
      rintro e u' w'' ⟨rfl, rfl, rfl⟩
      have k3 : (W2.setCell ⟨W.heap.size, 0, none⟩ (.int .i64 0)).cell? ⟨W.heap.size, 0, none⟩ = some (.int .i64 0) := (KB2.set 0 _).cell 0
      have hend : readP g TR W (.ok sc') (.returned (.int .i64 0)) (W2.setCell ⟨W.heap.size, 0, none⟩ (.int .i64 0)) := ⟨hB2.setCell hgk _, rfl, val', hR2.aside KB2 hTR 0 _⟩
      simp [Leaves, settle, results, Tryd.results12, go_sem, k3]
      exact hend
end Go.Proofs.YtehmlofhiffanaaDoor
