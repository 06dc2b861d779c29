/- The program's own scene: what a line's reading comes to. -/
import Derived.Test.YtehmlofhiffanaaDoorScnP3
import Derived.Test.YtehmlofhiffanaaDoorMScnR
import Derived.Test.YtehmlofhiffanaaDoorMRegion
namespace Go.Proofs.YtehmlofhiffanaaDoor
open Go.RowKit
set_option linter.unusedVariables false
set_option linter.unusedSimpArgs false
set_option linter.unnecessarySimpa false

abbrev panE (k : Nat) : Ending := Ending.panicked [{ v := Value.iface 36 (.int .i64 (k : Int)), recovered := false }]
/-- What lay below, and each error's variable, is as it was. -/
def Fr (g : Nat) (TR : TypeId) (W W' : World) : Prop := Below g W W' ∧ (TR ≠ 36 → ∀ (j : Nat) (cs : Array Value), W.heap[j]? = some (.cells cs 36 (0, 0)) → W'.heap[j]? = W.heap[j]?)
theorem fr_of_below {g : Nat} {TR : TypeId} {W W' : World} (hg : g < W.heap.size) (hb : Below W.heap.size W W') : Fr g TR W W' :=
  ⟨hb.mono (Nat.le_of_lt hg), fun _ j cs h => hb.block j (Array.getElem?_eq_some_iff.1 h).1⟩
theorem own_typed {W : World} {base : Nat} {T : TypeId} {sz n : Nat} {v : Value} {xs : List Value} (h : W.ownsRow base T sz v n xs) : ∀ k, v.ownBlock = some k → base ≤ k ∧ ∃ cur, W.heap[k]? = some (.cells cur T (0, 0)) := by
  intro k hk
  rcases h.2 with ⟨q, _⟩ | ⟨b, cap, cur, q1, q2, q3, _⟩
  · rw [q] at hk; cases hk
  · rw [q1] at hk
    cases hk
    exact ⟨q2, cur, q3⟩
/-- A line is taken in, or an error is told. -/
def lineP (g : Nat) (TR : TypeId) (W : World) (r : Except Nat Scn) (e : Ending) (W' : World) : Prop :=
  Fr g TR W W' ∧ (match r with
    | .error k => e = panE k ∧ Below W.heap.size W W'
    | .ok sc' => e = .returned (.tuple #[]) ∧ ∃ val', RepV g W' g TR sc' val')
theorem lineP_err {g : Nat} {TR : TypeId} {W W' : World} {r : Except Nat Scn} (k : Nat) (hg : g < W.heap.size) (hb : Below W.heap.size W W') (hr : r = .error k) : lineP g TR W r (panE k) W' := by
  subst hr; exact ⟨fr_of_below hg hb, rfl, hb⟩
theorem lineP_ok {g : Nat} {TR : TypeId} {W W' : World} {r : Except Nat Scn} {sc' : Scn} (hr : r = .ok sc') (hb : Fr g TR W W') {val' : Key → Value} (h : RepV g W' g TR sc' val') : lineP g TR W r (.returned (.tuple #[])) W' := by
  subst hr; exact ⟨hb, rfl, val', h⟩
theorem pnums_or {w : World} {l : List Wd} {e : Ending} {w' : World} (h : pnumsPost w l e w') {n : Nat} (hn : l.length = n) : (numsF l = none ∧ e = Ending.panicked [{ v := Value.iface 36 (.int .i64 10), recovered := false }] ∧ ∃ x, w' = grow w x) ∨ (∃ ns b x, numsF l = some ns ∧ Hid (ns.length = n) ∧ e = .returned (.slice (some ⟨b, 0, none⟩) n n) ∧ w' = grow w x ∧ Hid (w'.ownsRow w.heap.size 3 1 (.slice (some ⟨b, 0, none⟩) n n) n (i64s ns))) := by
  obtain ⟨hb, h⟩ := h
  obtain ⟨x, rfl⟩ := grow_of hb
  cases hN : numsF l with
  | none => rw [hN] at h; exact .inl ⟨rfl, h, x, rfl⟩
  | some ns =>
    rw [hN] at h
    obtain ⟨b, he, ho⟩ := h
    have hL : ns.length = n := (numsF_len _ _ hN).trans hn
    rw [hL] at he ho
    exact .inr ⟨ns, b, x, rfl, Lib.hid hL, he, rfl, Lib.hid ho⟩
theorem pnums_or2 {w : World} {l : List Wd} {e : Ending} {w' : World} (h : pnumsPost w l e w') {n : Nat} (hn : l.length = n) : (numsF l = none ∧ e = Ending.panicked [{ v := Value.iface 36 (.int .i64 10), recovered := false }] ∧ ∃ x, w' = grow w x) ∨ (∃ ns b, numsF l = some ns ∧ Hid (ns.length = n) ∧ e = .returned (.slice (some ⟨b, 0, none⟩) n n) ∧ Hid (Below w.heap.size w w') ∧ Hid (w'.ownsRow w.heap.size 3 1 (.slice (some ⟨b, 0, none⟩) n n) n (i64s ns))) := by
  have hb := h.1
  rcases pnums_or h hn with h | ⟨ns, b, x, h1, h2, h3, h4, h5⟩
  · exact .inl h
  · exact .inr ⟨ns, b, h1, h2, h3, Lib.hid hb, h5⟩
theorem below_gb {g : Nat} {W W' : World} {row : Option Nat} (h : W.grownBy W' row) (hr : ∀ k, row = some k → g ≤ k) (hg : g ≤ W.heap.size) : Below g W W' :=
  ⟨h.os, h.tape, h.output, h.size, fun k hk => h.block k (by omega) (fun e => by have := hr k e.symm; omega)⟩
theorem inB_all {ns : List Int} {m : Nat} (h : ns.length = m) {lo hi : Int} : inB lo hi ns = wi ns 0 m lo hi := by
  rw [← inB_wi, ← h, List.take_length]; rfl
theorem IF.subE {W : World} {b off : Nat} {ns : List Int} (h : IF W (some ⟨b, off, none⟩) ns) (a e off' : Nat) (he : e ≤ ns.length) (ho : off' = off + a) : IF W (some ⟨b, off', none⟩) ((ns.take e).drop a) := by
  subst ho; exact h.sub a e he
theorem len_big {n : Nat} (hl : n ≤ 65537) : n ≤ 1048576 := by omega
theorem fr_gb {g : Nat} {TR : TypeId} {W W' : World} {cs : Array Value} (h : W.grownBy W' (some g)) (hB : Blk W g TR cs) : Fr g TR W W' := by
  refine ⟨below_gb h (fun k e => by cases e; exact Nat.le_refl _) (Nat.le_of_lt hB.lt), fun ht j c hj => h.block j (Array.getElem?_eq_some_iff.1 hj).1 (fun e => ?_)⟩
  cases e
  have := hj.symm.trans hB
  injection this with this
  injection this with _ q
  exact ht q.symm
/-- A row is appended to, then a cell of the block or of a row is stored. -/
theorem fr_app {g : Nat} {TR T : TypeId} {W V W1 W2 : World} {row : Option Nat} (h1 : Below W.heap.size W V) (hg : g < W.heap.size) (hgr : W1.grownBy W2 row) (ho : ∀ k, row = some k → g ≤ k ∧ ∃ cur, V.heap[k]? = some (.cells cur T (0, 0))) (hT : T ≠ 36)
    {b : Nat} {T' : TypeId} {cb : Array Value} (hb : g ≤ b) (hbt : Blk V b T' cb) (hT' : TR ≠ 36 → T' ≠ 36) (i : Nat) (u : Value) (h2 : Below V.heap.size V W1) : Fr g TR W (W2.setCell ⟨b, i, none⟩ u) := by
  have a : Below g W W1 := (bel_trans h1 h2).mono (Nat.le_of_lt hg)
  have s := a.size
  have c : Below g W1 W2 := below_gb hgr (fun k e => (ho k e).1) (by omega)
  refine ⟨(a.trans c).setCell hb u, fun ht j cs hj => ?_⟩
  have hjl := (Array.getElem?_eq_some_iff.1 hj).1
  have hjV : V.heap[j]? = some (.cells cs 36 (0, 0)) := (h1.block j hjl).trans hj
  have hjVl := (Array.getElem?_eq_some_iff.1 hjV).1
  have e1 : W1.heap[j]? = W.heap[j]? := ((h2.block j hjVl).trans (h1.block j hjl))
  have e2 : W2.heap[j]? = W1.heap[j]? := hgr.block j (Nat.lt_of_lt_of_le hjVl h2.size) (fun e => by
    obtain ⟨_, cur, q⟩ := ho j e.symm
    have := hjV.symm.trans q
    injection this with this
    injection this with _ q2
    exact hT q2.symm)
  have hne : b ≠ j := fun e => by
    subst e
    have := hjV.symm.trans hbt
    injection this with this
    injection this with _ q2
    exact hT' ht q2.symm
  rw [← e1, ← e2]
  simp only [World.setCell]
  rw [Array.getElem?_modify]
  simp [hne]
/-- The block beside the rows is turned, no row. -/
theorem RepV.but {base g : Nat} {W W' : World} {TR : TypeId} {sc sc' : Scn} {val : Key → Value} (h : RepV base W g TR sc val) (hg : W.grownBy W' (some g)) (hB : Blk W' g TR (rcells sc' val)) (hsc : rowsOf sc' val = rowsOf sc val) (h1 : sc'.texs = sc.texs) (h2 : sc'.cages = sc.cages) : RepV base W' g TR sc' val := by
  refine ⟨hB, ?_, ?_, ?_, ?_, ?_, ?_, h.base_le⟩
  · rw [hsc]; exact h.own.beside hg
  · rw [h1]; exact h.nilT
  · rw [h2]; exact h.nilV
  · rw [h2]; exact h.nilF
  · rw [h2]; exact h.nilC
  · unfold cageAt; rw [h2]; exact h.nilR
end Go.Proofs.YtehmlofhiffanaaDoor
