/- The map of the ways that have been gone along. -/
import Derived.Maps.OwnOps
import Derived.Maps.OwnSet
import Derived.DeepKeys4
import Derived.WideKeyEntry
import Derived.Test.YtpdnaceggpdleaaWevU
namespace Go.Proofs.Ytpdnaceggpdleaa
open Go.RowKit Go.ChangeShapes Go.WideShapes Go.MapKept Go.ChangeMaps Go.WideElems
set_option linter.unusedVariables false
set_option linter.unusedSimpArgs false
set_option linter.unnecessarySimpa false
set_option maxRecDepth 100000
theorem wideY : (match Try.prog.underlying 34 with | some (.array _ _) | some (.struct _) => true | _ => false) = true := by kernel_rfl
theorem lawY : Maps.Keyed Try.prog 34 := Maps.Keyed.of_law (deep_law_laid (m := 2) (by kernel_rfl) (by omega) (of_decide_eq_true (by kernel_rfl)) (by kernel_rfl) wideY)
theorem keyTY : Try.prog.keyType 34 = true := by kernel_rfl
@[reducible] def valY (s : (Int × Int)) : Value := .agg #[.int .i64 s.1, .int .i64 s.2]
def litY (s : (Int × Int)) : Lit := .string (keyBytes [.int .i64 s.1, .int .i64 s.2])
def rngY (s : (Int × Int)) : Prop := i64W s.1 ∧ i64W s.2
theorem keyY {s : (Int × Int)} (h : rngY s) : keyOf Try.prog 34 (valY s) = some (litY s) := by
  obtain ⟨h0, h1⟩ := h
  have hw0 := h0.wf
  have hw1 := h1.wf
  have hf : (valY s).formed Try.prog 34 = true := by
    unfold valY; simp only [Value.formed, Try.underlying34]; kernel_rfl
  obtain ⟨m, hm⟩ : ∃ m, Try.prog.types.size = m + 1 := ⟨Try.prog.types.size - 1, by kernel_rfl⟩
  have c1 : Try.prog.cellsOf 34 = 2 := by kernel_rfl
  have c2 : Try.prog.cellsOf 3 = 1 := by kernel_rfl
  unfold keyOf
  rw [Try.underlying34]
  simp only [keyTY, hf, Bool.and_self, if_true, hm]
  simp only [valY, Value.cells, Program.keyLits, Try.underlying34, c1, c2, Try.underlying3]
  simp [hw0, hw1, c2, Try.underlying3, Program.keyLits, litY, List.range_succ]
theorem injY {s u : (Int × Int)} (hs : rngY s) (hu : rngY u) (h : litY s = litY u) : s = u := by
  have h1 := keyY hs
  have h2 := keyY hu
  rw [h] at h1
  have := lawY.inj h1 h2
  simp only [valY, Value.agg.injEq] at this
  simp at this
  exact Prod.ext this.1 this.2
/-- The ways that have been gone along, each once. -/
structure WyD (D : DataW Unit) (L : List (Int × Int)) : Prop where
  rng : ∀ s ∈ L, rngY s
  has : ∀ s, rngY s → s ∉ L → Maps.has D (litY s) = false
  val : ∀ s, s ∈ L → ∀ zd, D.atKey (litY s) zd = .lit (.int .i64 1)
def WyM (W : World) (B : Nat) (L : List (Int × Int)) : Prop := ∃ D : DataW Unit, W.ownsMap Try.prog 34 (plainElem Try.prog 3) B L.length D ∧ WyD D L
theorem WyM.made (W : World) : WyM (W.alloc (.map #[] 0)) W.heap.size [] := ⟨.map [], World.ownsMap_made _ _ _ _, by simp, fun s _ _ => by simp [Maps.has], by simp⟩
theorem WyM.kept {W W' : World} {B : Nat} {L : List (Int × Int)} {row : Option Nat} (h : WyM W B L) (hg : W.grownBy W' row) (hne : some B ≠ row) : WyM W' B L := by
  obtain ⟨D, h1, h2⟩ := h; exact ⟨D, h1.kept hg hne, h2⟩
theorem WyM.lt {W : World} {B : Nat} {L : List (Int × Int)} (h : WyM W B L) : B < W.heap.size := by
  obtain ⟨D, h1, h2⟩ := h; exact h1.lt
theorem WyM.look {W : World} {B : Nat} {L : List (Int × Int)} (h : WyM W B L) {s : Int × Int} (hs : rngY s) : (Instr.lookup 32 (.map (some B)) (valY s) false).run Try.prog W = .ok (.int .i64 (if s ∈ L then 1 else 0)) W := by
  obtain ⟨D, ho, hd⟩ := h
  obtain ⟨c, hrun, hat, hwc⟩ := ho.lookup_int lawY Try.underlying32 Try.underlying3 (zeroIW W) (keyY hs)
  rw [hrun]
  split
  · rename_i hm
    rw [hd.val s hm] at hat
    simp only [DataW.lit.injEq, Lit.int.injEq, true_and] at hat
    rw [← hat]
  · rename_i hm
    rw [Maps.atKey_of_not_has (hd.has s hs hm)] at hat
    simp only [DataW.lit.injEq, Lit.int.injEq, true_and] at hat
    rw [← hat]
/-- 'm[k]++' of a new key, step by step. -/
theorem entry_newY {W : World} {b : Nat} {es : Array MapEntry} {clock : Nat} {R : Value → Option (DataW Unit × List MemPlace)} (hb : W.heap[b]? = some (.map es clock)) (F : WideElems.Fit Try.prog 34 R es clock) {key : Value} {kl : Lit} (hkey : keyOf Try.prog 34 key = some kl)
    (habs : ∀ x ∈ es.toList, x.key ≠ key) : ∃ u1 u2 st, (Instr.mapEntry 32 (.map (some b)) key).run Try.prog W = .ok (.tuple #[.int .i64 0, goInt st]) u1 ∧ (Instr.mapUpdate 32 (.map (some b)) key (.int .i64 0)).run Try.prog W = .ok () u1 ∧
      (Instr.entryStore 32 (.map (some b)) (goInt st) (.int .i64 1)).run Try.prog u1 = .ok () u2 ∧ (Instr.mapUpdate 32 (.map (some b)) key (.int .i64 1)).run Try.prog W = .ok () u2 := by
  obtain ⟨s1, s2, _⟩ := F.stamped
  rcases lawY.find W hkey es.toList F.keys with ⟨h1, h2⟩ | ⟨j, e0, h1, h2, h3⟩
  · have hw2 : (setBlock W b (.map (es.push ⟨key, .int .i64 0, clock⟩) (clock + 1))).heap[b]? = some (.map (es.push ⟨key, .int .i64 0, clock⟩) (clock + 1)) := heap_setBlock_same hb _
    refine ⟨setBlock W b (.map (es.push ⟨key, .int .i64 0, clock⟩) (clock + 1)), setBlock W b (.map (es.push ⟨key, .int .i64 1, clock⟩) (clock + 1)), clock, ?_, ?_, ?_, ?_⟩
    · simp [Instr.mapEntry, run_underlying Try.underlying32, MapKept.run_getObj_map hb, lawY.check W false hkey, h1, zeroIW, MapKept.run_setObj_map _ hb, Result.andThen, setBlock]
    · simp [Instr.mapUpdate, run_underlying Try.underlying32, MapKept.run_getObj_map hb, lawY.check W false hkey, h1, MapKept.run_setObj_map _ hb, Result.andThen, setBlock]
    · have hidx : (es.push ⟨key, .int .i64 0, clock⟩).findIdx? (fun e => ((e.born : Nat) : Int) == ((clock : Nat) : Int)) = some es.size := by
        rw [WideElems.findIdx_arr]
        have := WideElems.findIdx_born (l := (es.push ⟨key, .int .i64 0, clock⟩).toList) (j := es.size) (e0 := ⟨key, .int .i64 0, clock⟩) (by
          simp only [Array.toList_push, List.map_append, List.map_cons, List.map_nil]
          refine List.nodup_append.2 ⟨s2, by simp, fun a ha c hc e1 => ?_⟩
          simp only [List.mem_singleton] at hc
          obtain ⟨x, hx, rfl⟩ := List.mem_map.1 ha
          have := s1 x hx
          omega) (by simp)
        exact this
      have hmod : (es.push ⟨key, .int .i64 0, clock⟩).modify es.size (fun e => { e with val := .int .i64 1 }) = es.push ⟨key, .int .i64 1, clock⟩ := by
        apply Array.ext'
        rw [Array.toList_modify, Array.toList_push, Array.toList_push, ← Array.length_toList, WideElems.modify_last]
      simp [Instr.entryStore, MapKept.run_getObj_map hw2, asInt, asIntOf, goInt, hidx, hmod, MapKept.run_setObj_map _ hw2, Result.andThen]
      simp [setBlock]
    · simp [Instr.mapUpdate, run_underlying Try.underlying32, MapKept.run_getObj_map hb, lawY.check W false hkey, h1, MapKept.run_setObj_map _ hb, Result.andThen, setBlock]
  · exact absurd h3 (habs e0 (List.mem_of_getElem? h2))
theorem WyM.bump {W : World} {B : Nat} {L : List (Int × Int)} (h : WyM W B L) {s : Int × Int} (hs : rngY s) (hn : s ∉ L) (hlen : L.length < 1000000) :
    ∃ u1 u2 st, (Instr.mapEntry 32 (.map (some B)) (valY s)).run Try.prog W = .ok (.tuple #[.int .i64 0, goInt st]) u1 ∧ W.grownBy u1 (some B) ∧ (Instr.lookup 32 (.map (some B)) (valY s) false).run Try.prog u1 = .ok (.int .i64 0) u1 ∧
      (Instr.entryStore 32 (.map (some B)) (goInt st) (.int .i64 1)).run Try.prog u1 = .ok () u2 ∧ W.grownBy u2 (some B) ∧ WyM u2 B (L ++ [s]) := by
  obtain ⟨D, ho, hd⟩ := h
  have hk := keyY hs
  have habs : ∀ x ∈ (Classical.choose ho).toList, x.key ≠ valY s := fun x hx e => by
    obtain ⟨clock, hb, F, hsz, hD⟩ := Classical.choose_spec ho
    rcases Maps.fit_look false lawY Try.underlying32 (zeroIW W) hb F hk with ⟨_, h2, _⟩ | ⟨e0, y, h1, h2, h3, h4, h5, _⟩
    · exact h2 x hx e
    · have hh := hd.has s hs hn
      have e1 := Maps.atKey_of_not_has hh (.lit (.int .i64 7))
      have e2 := Maps.atKey_of_not_has hh (.lit (.int .i64 8))
      have e3 := h5 (.lit (.int .i64 7))
      have e4 := h5 (.lit (.int .i64 8))
      rw [← hD] at e3 e4
      rw [e1] at e3
      rw [e2] at e4
      rw [← e4] at e3
      simp at e3
  obtain ⟨clock, hb, F, hsz, hD⟩ := Classical.choose_spec ho
  obtain ⟨u1, u2, st, r1, r2, r3, r4⟩ := entry_newY hb F hk habs
  obtain ⟨v1, p1, o1, g1⟩ := ho.update lawY Try.underlying32 (by unfold maxLen; omega) hk (plainElem_int (H := Unit) Try.underlying3 (a := 0) (by decide))
  obtain ⟨v2, p2, o2, g2⟩ := ho.update lawY Try.underlying32 (by unfold maxLen; omega) hk (plainElem_int (H := Unit) Try.underlying3 (a := 1) (by decide))
  obtain rfl : u1 = v1 := by rw [r2] at p1; injection p1
  obtain rfl : u2 = v2 := by rw [r4] at p2; injection p2
  refine ⟨u1, u2, st, r1, g1, ?_, r3, g2, _, by simpa using o2, ?_, ?_, ?_⟩
  · obtain ⟨c, hrun, hat, hwc⟩ := o1.lookup_int lawY Try.underlying32 Try.underlying3 (zeroIW u1) hk
    rw [Maps.atKey_put_same ho.isMap (lawY.key hk)] at hat
    simp only [DataW.lit.injEq, Lit.int.injEq, true_and] at hat
    rw [hrun, ← hat]
  · intro u hu
    rcases List.mem_append.1 hu with hu | hu
    · exact hd.rng u hu
    · obtain rfl := List.mem_singleton.1 hu; exact hs
  · intro u hu hun
    have e : u ≠ s := fun e => hun (by simp [e])
    rw [Maps.has_put_other (fun e2 => e (injY hu hs e2)), hd.has u hu (fun h => hun (List.mem_append_left _ h))]
  · intro u hu zd
    by_cases e : u = s
    · subst e
      rw [Maps.atKey_put_same ho.isMap (lawY.key hk)]
    · have hu2 : u ∈ L := by
        rcases List.mem_append.1 hu with hu | hu
        · exact hu
        · exact absurd (List.mem_singleton.1 hu) e
      rw [Maps.atKey_put_other (fun e2 => e (injY (hd.rng u hu2) hs e2)), hd.val u hu2]
end Go.Proofs.Ytpdnaceggpdleaa
