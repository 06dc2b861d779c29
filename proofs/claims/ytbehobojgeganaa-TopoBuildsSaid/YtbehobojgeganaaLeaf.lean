/- Arguments opened down to their single cells, whatever their structs and arrays. No program is imported. -/
import Derived.ProofKit
import Derived.OpenShut
import Derived.Deep.Slices
namespace Go.Proofs.Ytbehobojgeganaa
open Go.ChangeShapes Go.WideShapes Go.ChangeAt Go.RowKit
set_option linter.unusedVariables false
set_option linter.unusedSimpArgs false
/-- The single cells of a type: where each lies, and its type. -/
def leavesAt (P : Program) : Nat → Nat → TypeId → List (Nat × TypeId)
  | 0, _, _ => []
  | f + 1, off, t => match P.underlying t with
    | some (.struct fs) => fs.toList.flatMap fun fd => leavesAt P f (off + fd.offset) fd.type
    | some (.array n e) => (List.range n).flatMap fun i => leavesAt P f (off + i * P.cellsOf e) e
    | _ => [(off, t)]
section
variable {H : Type} {enc : TypeId × Value → H} {P : Program} {w : World} {base : Nat} {spare : Nat → Bool} {held : Bool}
theorem trod_single {fuel : Nat} {t : TypeId} {cs : List Value} {x : DataW H × List MemPlace} (h : DataW.trod enc P w base spare held fuel t cs = some x) (hs : ∀ fs, P.underlying t ≠ some (.struct fs)) (ha : ∀ n e, P.underlying t ≠ some (.array n e)) : ∃ c, cs = [c] := by
  cases fuel with
  | zero => simp [DataW.trod] at h
  | succ n =>
    unfold DataW.trod at h
    split at h <;> first | exact ⟨_, rfl⟩ | (rename_i hu; first | exact absurd hu (hs _) | exact absurd hu (ha _ _)) | cases h
theorem leaf_trod : ∀ (f : Nat) (t : TypeId) (off0 o : Nat) (lt : TypeId), (o, lt) ∈ leavesAt P f off0 t → ∀ (n : Nat) (cs : List Value) (x : DataW H × List MemPlace), DataW.trod enc P w base spare held n t cs = some x →
    off0 ≤ o ∧ ∃ c m y, cs[o - off0]? = some c ∧ DataW.trod enc P w base spare held m lt [c] = some y
  | 0, _, _, _, _, h, _, _, _, _ => by simp [leavesAt] at h
  | f + 1, t, off0, o, lt, h, n, cs, x, hx => by
    unfold leavesAt at h
    split at h
    · rename_i fs hu
      obtain ⟨fd, hfd, hm⟩ := List.mem_flatMap.1 h
      obtain ⟨ys, n', _, _, hlen, hyl, hf⟩ := DataW.trod_struct hu hx
      obtain ⟨j, hj⟩ := List.getElem?_of_mem hfd
      have hj' : fs[j]? = some fd := by simpa using hj
      have h1 := hf j fd hj'
      have hjl : j < ys.length := by rw [hyl]; exact (Array.getElem?_eq_some_iff.1 hj').1
      rw [List.getElem?_eq_getElem hjl] at h1
      obtain ⟨hle, c, m, y, hc, hy⟩ := leaf_trod f fd.type (off0 + fd.offset) o lt hm _ _ _ h1
      refine ⟨by omega, c, m, y, ?_, hy⟩
      rw [List.getElem?_take] at hc
      split at hc
      · rw [List.getElem?_drop] at hc
        rw [← hc]; congr 1; omega
      · cases hc
    · rename_i k e hu
      obtain ⟨i, hi, hm⟩ := List.mem_flatMap.1 h
      rw [List.mem_range] at hi
      obtain ⟨ys, n', _, _, hlen, hyl, hf⟩ := DataW.trod_array hu hx
      have h1 := hf i hi
      have hjl : i < ys.length := by rw [hyl]; exact hi
      rw [List.getElem?_eq_getElem hjl] at h1
      obtain ⟨hle, c, m, y, hc, hy⟩ := leaf_trod f e (off0 + i * P.cellsOf e) o lt hm _ _ _ h1
      refine ⟨by omega, c, m, y, ?_, hy⟩
      rw [List.getElem?_take] at hc
      split at hc
      · rw [List.getElem?_drop] at hc
        rw [← hc]; congr 1; omega
      · cases hc
    · rename_i hs ha
      simp only [List.mem_singleton, Prod.mk.injEq] at h
      obtain ⟨rfl, rfl⟩ := h
      obtain ⟨c, rfl⟩ := trod_single hx (fun fs hu => hs fs hu) (fun k e hu => ha k e hu)
      exact ⟨Nat.le_refl _, c, n, x, by simp, hx⟩
/-- All cells whole numbers of 64 bits. -/
theorem ints_trod {t ti : TypeId} {f k n : Nat} {cs : List Value} {x : DataW H × List MemPlace} (hl : leavesAt P f 0 t = (List.range k).map fun i => (i, ti)) (hti : P.underlying ti = some (.int .i64)) (hk : cs.length = k)
    (h : DataW.trod enc P w base spare held n t cs = some x) : ∃ g : Nat → Int, cs = (List.range k).map (fun i => .int .i64 (g i)) ∧ ∀ i, i < k → -9223372036854775808 ≤ g i ∧ g i ≤ 9223372036854775807 := by
  have each : ∀ i, i < k → ∃ a : Int, cs[i]? = some (.int .i64 a) ∧ (-9223372036854775808 ≤ a ∧ a ≤ 9223372036854775807) := fun i hi => by
    obtain ⟨_, c, m, y, hc, hy⟩ := leaf_trod f t 0 i ti (by rw [hl]; exact List.mem_map.2 ⟨i, List.mem_range.2 hi, rfl⟩) n cs x h
    obtain ⟨a, e0, _, wa⟩ := DataW.trod_int hti hy
    simp at e0
    subst e0
    exact ⟨a, by simpa using hc, bounds_i64 wa⟩
  refine ⟨fun i => if h : i < k then Classical.choose (each i h) else 0, ?_, fun i hi => by simp only [hi, dif_pos]; exact (Classical.choose_spec (each i hi)).2⟩
  apply List.ext_getElem?
  intro i
  by_cases hi : i < k
  · rw [(Classical.choose_spec (each i hi)).1]
    simp [hi]
  · rw [List.getElem?_eq_none (by omega), List.getElem?_eq_none (by simp; omega)]
theorem open_ints_agg {r : Reach} {b0 : Nat} {t ti : TypeId} {fs : Array Field} {f k : Nat} {v : Value} {d : DataW H} {p : List MemPlace} (hs : P.underlying t = some (.struct fs)) (hC : P.cellsOf t = k) (hl : leavesAt P f 0 t = (List.range k).map fun i => (i, ti)) (hti : P.underlying ti = some (.int .i64))
    (hv : Value.okWide P w r b0 t v) (h : DataW.Trod enc P w base spare held t v d p) : ∃ g : Nat → Int, v = .agg ((List.range k).map fun i => .int .i64 (g i)).toArray ∧ ∀ i, i < k → -9223372036854775808 ≤ g i ∧ g i ≤ 9223372036854775807 := by
  obtain ⟨cs, rfl, hsz⟩ := okWide_struct hs hv
  obtain ⟨n, hn⟩ := h
  obtain ⟨g, hg, hb⟩ := ints_trod hl hti (by simpa [Value.cells] using hsz.trans hC) hn
  refine ⟨g, ?_, hb⟩
  simp only [Value.cells] at hg
  rw [← hg]
end
end Go.Proofs.Ytbehobojgeganaa
