/- Arguments opened down to their single cells, with what each slice and string weighs. No program is imported. -/
import Derived.Test.YtbehobojgeganaaLeaf
import Derived.SizedLaws
namespace Go.Proofs.Ytbehobojgeganaa
open Go.ChangeShapes Go.WideShapes Go.ChangeAt Go.RowKit
set_option linter.unusedVariables false
set_option linter.unusedSimpArgs false
section
variable {H : Type}
theorem addr_addN (b off k : Nat) : (⟨b, off, none⟩ : Addr).add k = ⟨b, off + k, none⟩ := by
  unfold Addr.add
  split <;> simp_all
theorem weights_mem_all {P : Program} {e : TypeId} : ∀ {ds : List (DataW H)} {d : DataW H}, d ∈ ds → ∀ n ∈ d.weights P e, n ∈ DataW.weightsAll P e ds
  | [], _, h, _, _ => by cases h
  | d0 :: ds, d, h, n, hn => by
    simp only [DataW.weightsAll, List.mem_append]
    rcases List.mem_cons.1 h with rfl | h
    · exact .inl hn
    · exact .inr (weights_mem_all h n hn)
/-- Cells that read as data of a type, no slice or string of which weighs more than the form's reach. -/
def TW (enc : TypeId × Value → H) (P : Program) (w : World) (base : Nat) (spare : Nat → Bool) (held : Bool) (t : TypeId) (cs : List Value) : Prop :=
  ∃ (fuel : Nat) (x : DataW H × List MemPlace), DataW.trod enc P w base spare held fuel t cs = some x ∧ ∀ n ∈ x.1.weights P t, n ≤ reachBytes
variable {enc : TypeId × Value → H} {P : Program} {w : World} {base : Nat} {spare : Nat → Bool} {held : Bool}
theorem tw_leaf : ∀ (f : Nat) (t : TypeId) (off0 o : Nat) (lt : TypeId), (o, lt) ∈ leavesAt P f off0 t → ∀ (cs : List Value), TW enc P w base spare held t cs →
    off0 ≤ o ∧ ∃ c, cs[o - off0]? = some c ∧ TW enc P w base spare held lt [c]
  | 0, _, _, _, _, h, _, _ => by simp [leavesAt] at h
  | f + 1, t, off0, o, lt, h, cs, ⟨fu, x, hx, hw⟩ => by
    unfold leavesAt at h
    split at h
    · rename_i fs hu
      obtain ⟨fd, hfd, hm⟩ := List.mem_flatMap.1 h
      obtain ⟨ys, n', _, hxe, hlen, hyl, hf⟩ := DataW.trod_struct hu hx
      obtain ⟨j, hj⟩ := List.getElem?_of_mem hfd
      have hj' : fs[j]? = some fd := by simpa using hj
      have h1 := hf j fd hj'
      have hjl : j < ys.length := by rw [hyl]; exact (Array.getElem?_eq_some_iff.1 hj').1
      rw [List.getElem?_eq_getElem hjl] at h1
      have hwj : ∀ n ∈ (ys[j]).1.weights P fd.type, n ≤ reachBytes := fun n hn => hw n (by
        rw [hxe]
        simp only [DataW.weights, hu]
        exact DataW.weights_mem_each (j := j) (t := fd.type) (d := ys[j].1) (by simp [hj']) (by simp [hjl]) n hn)
      obtain ⟨hle, c, hc, hy⟩ := tw_leaf f fd.type (off0 + fd.offset) o lt hm _ ⟨_, _, h1, hwj⟩
      refine ⟨by omega, c, ?_, hy⟩
      rw [List.getElem?_take] at hc
      split at hc
      · rw [List.getElem?_drop] at hc
        rw [← hc]; congr 1; omega
      · cases hc
    · rename_i k e hu
      obtain ⟨i, hi, hm⟩ := List.mem_flatMap.1 h
      rw [List.mem_range] at hi
      obtain ⟨ys, n', _, hxe, hlen, hyl, hf⟩ := DataW.trod_array hu hx
      have h1 := hf i hi
      have hjl : i < ys.length := by rw [hyl]; exact hi
      rw [List.getElem?_eq_getElem hjl] at h1
      have hwj : ∀ n ∈ (ys[i]).1.weights P e, n ≤ reachBytes := fun n hn => hw n (by
        rw [hxe]
        simp only [DataW.weights, hu]
        exact weights_mem_all (List.mem_map.2 ⟨ys[i], List.getElem_mem hjl, rfl⟩) n hn)
      obtain ⟨hle, c, hc, hy⟩ := tw_leaf f e (off0 + i * P.cellsOf e) o lt hm _ ⟨_, _, h1, hwj⟩
      refine ⟨by omega, c, ?_, hy⟩
      rw [List.getElem?_take] at hc
      split at hc
      · rw [List.getElem?_drop] at hc
        rw [← hc]; congr 1; omega
      · cases hc
    · rename_i hs ha
      simp only [List.mem_singleton, Prod.mk.injEq] at h
      obtain ⟨rfl, rfl⟩ := h
      obtain ⟨c, rfl⟩ := trod_single hx (fun fs hu => hs fs hu) (fun k e hu => ha k e hu)
      exact ⟨Nat.le_refl _, c, by simp, ⟨_, _, hx, hw⟩⟩
theorem tw_int {t : TypeId} {c : Value} (hti : P.underlying t = some (.int .i64)) (h : TW enc P w base spare held t [c]) : ∃ a : Int, c = .int .i64 a ∧ (-9223372036854775808 ≤ a ∧ a ≤ 9223372036854775807) := by
  obtain ⟨_, _, hy, _⟩ := h
  obtain ⟨a, e0, _, wa⟩ := DataW.trod_int hti hy
  simp at e0
  exact ⟨a, e0, bounds_i64 wa⟩
theorem tw_str {t : TypeId} {c : Value} (hti : P.underlying t = some .string) (h : TW enc P w base spare held t [c]) : ∃ l : List UInt8, c = .string ⟨l.toArray⟩ ∧ l.length ≤ reachBytes := by
  obtain ⟨_, x, hy, hw⟩ := h
  obtain ⟨s, e0, hx, _⟩ := DataW.trod_string hti hy
  simp at e0
  refine ⟨s.data.toList, by rw [e0], hw _ ?_⟩
  rw [hx]
  simp [DataW.weights]
theorem tw_slice {t e : TypeId} {c : Value} {sz bz : Nat} (hu : P.underlying t = some (.slice e)) (hsz : P.cellsOf e = sz) (hbz : P.bytesOf e = bz) (h0 : 0 < sz) (h : TW enc P w base spare held t [c]) :
    ∃ (A : Option Addr) (n k : Nat) (rows : List (List Value)), c = .slice A n k ∧ rows.length = n ∧ n * bz ≤ reachBytes ∧
      (0 < n → ∃ b off, A = some ⟨b, off, none⟩ ∧ b < w.heap.size ∧ ∀ i (hi : i < rows.length), rows[i].length = sz ∧ ∀ j, j < sz → w.cell? ⟨b, off + i * sz + j, none⟩ = rows[i][j]?) ∧
      ∀ r ∈ rows, TW enc P w base spare held e r := by
  obtain ⟨fu, x, hx, hw⟩ := h
  rcases DataW.trod_slice hu hx with ⟨e0, _⟩ | ⟨a, len, cap, elems, rest, n, _, e0, hxe, hb, hl, hm, hlen, hel, _, _⟩
  · simp at e0
    exact ⟨none, 0, 0, [], e0, rfl, by simp, fun h => absurd h (by omega), fun r hr => by cases hr⟩
  · simp only [List.cons.injEq, and_true] at e0
    rw [hsz] at hel
    have each : ∀ i, i < len → ∃ cs', w.cells? base (a.add (i * sz)) sz = some cs' ∧ TW enc P w base spare held e cs' := fun i hi => by
      have h1 := hel i hi
      have hil : i < elems.length := by omega
      rw [List.getElem?_eq_getElem hil] at h1
      obtain ⟨cs', h2, h3⟩ := Option.bind_eq_some_iff.1 h1
      refine ⟨cs', h2, _, _, h3, fun n hn => hw n ?_⟩
      rw [hxe]
      simp only [DataW.weights, hu]
      exact List.mem_cons.2 (.inr (List.mem_append.2 (.inl (weights_mem_all (List.mem_map.2 ⟨elems[i], List.getElem_mem hil, rfl⟩) n hn))))
    obtain ⟨g, hg⟩ : ∃ g : Nat → List Value, ∀ i, i < len → w.cells? base (a.add (i * sz)) sz = some (g i) ∧ TW enc P w base spare held e (g i) :=
      ⟨fun i => if h : i < len then Classical.choose (each i h) else [], fun i hi => by simp only [hi, dif_pos]; exact Classical.choose_spec (each i hi)⟩
    refine ⟨some a, len, cap, (List.range len).map g, e0, by simp, ?_, fun hn => ?_, fun r hr => ?_⟩
    · have : (elems.length + rest.length) * bz ≤ reachBytes := hw _ (by
        rw [hxe]
        simp only [DataW.weights, hu, hbz, List.length_map]
        exact List.mem_cons_self)
      exact Nat.le_trans (Nat.mul_le_mul_right _ (by omega)) this
    · obtain ⟨b, o, s⟩ := a
      obtain ⟨_, hlen0, hat0⟩ := World.cells?_some (hg 0 hn).1
      have q0 := hat0 0 h0
      have hb0 : (⟨b, o, s⟩ : Addr).add (0 * sz) = ⟨b, o, s⟩ := by
        cases s <;> simp [Addr.add]
      rw [hb0] at q0
      have q1 : ∃ u, w.cell? ((⟨b, o, s⟩ : Addr).add 0) = some u := by
        rw [q0]
        exact ⟨(g 0)[0]'(by omega), List.getElem?_eq_getElem (by omega)⟩
      obtain ⟨u, hu0⟩ := q1
      have hs : b < w.heap.size ∧ s = none := by
        have : w.cell? ⟨b, (⟨b, o, s⟩ : Addr).add 0 |>.off, s⟩ = some u := by
          rw [← hu0]
          cases s <;> simp [Addr.add]
        unfold World.cell? at this
        rcases Nat.lt_or_ge b w.heap.size with hb | hb
        · refine ⟨hb, ?_⟩
          cases s with
          | none => rfl
          | some k =>
            simp only [Option.isSome_some, if_true] at this
            split at this <;> cases this
        · simp only [Array.getElem?_eq_none hb] at this; cases this
      obtain ⟨hlt, rfl⟩ := hs
      refine ⟨b, o, rfl, hlt, fun i hi => ?_⟩
      have hi' : i < len := by simpa using hi
      obtain ⟨_, hl2, hat⟩ := World.cells?_some (hg i hi').1
      simp only [List.getElem_map, List.getElem_range]
      refine ⟨hl2, fun j hj => ?_⟩
      have := hat j hj
      rw [addr_addN, addr_addN] at this
      exact this
    · obtain ⟨i, hi, rfl⟩ := List.mem_map.1 hr
      exact (hg i (by simpa using hi)).2
theorem list_of {α β : Type} (f : β → α) (Q : β → Prop) : ∀ (l : List α), (∀ r ∈ l, ∃ q, r = f q ∧ Q q) → ∃ ps : List β, l = ps.map f ∧ ∀ q ∈ ps, Q q
  | [], _ => ⟨[], rfl, fun q hq => by cases hq⟩
  | a :: l, h => by
    obtain ⟨q, rfl, hq⟩ := h a (by simp)
    obtain ⟨ps, hl, hps⟩ := list_of f Q l (fun r hr => h r (by simp [hr]))
    refine ⟨q :: ps, by rw [hl]; rfl, fun p hp => ?_⟩
    rcases List.mem_cons.1 hp with rfl | hp
    · exact hq
    · exact hps p hp
end
end Go.Proofs.Ytbehobojgeganaa
