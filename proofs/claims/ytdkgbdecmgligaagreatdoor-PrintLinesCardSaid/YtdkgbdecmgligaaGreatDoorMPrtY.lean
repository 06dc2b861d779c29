/- Arguments opened down to their single cells, with what each slice and string weighs. No program is imported. -/
import Derived.Test.YtdkgbdecmgligaaGreatDoorLeaf
import Derived.SizedLaws
import Derived.Test.YtdkgbdecmgligaaGreatDoorMPrtT
import Derived.Test.YtdkgbdecmgligaaGreatDoorMPrtV
namespace Go.Proofs.YtdkgbdecmgligaaGreatDoor
open Go.ChangeShapes Go.WideShapes Go.ChangeAt Go.RowKit
set_option linter.unusedVariables false
set_option linter.unusedSimpArgs false
section
variable {H : Type}
theorem addr_addN (b off k : Nat) : (⟨b, off, none⟩ : Addr).add k = ⟨b, off + k, none⟩ := by
  unfold Addr.add
  split <;> simp_all
theorem weights_mem_all {P : Program} {e : TypeId} : ∀ {ds : List (DataW H)} {d : DataW H}, d ∈ ds → ∀ n ∈ d.weights P e, n ∈ DataW.weightsAll P e ds
  | [], _, h, _, _ => by cases h
  | d0 :: ds, d, h, n, hn => by
    simp only [DataW.weightsAll, List.mem_append]
    rcases List.mem_cons.1 h with rfl | h
    · exact .inl hn
    · exact .inr (weights_mem_all h n hn)
/-- Cells that read as data of a type, no slice or string of which weighs more than the form's reach. -/
def TW (enc : TypeId × Value → H) (P : Program) (w : World) (base : Nat) (spare : Nat → Bool) (held : Bool) (t : TypeId) (cs : List Value) : Prop :=
  ∃ (fuel : Nat) (x : DataW H × List MemPlace), DataW.trod enc P w base spare held fuel t cs = some x ∧ ∀ n ∈ x.1.weights P t, n ≤ reachBytes
variable {enc : TypeId × Value → H} {P : Program} {w : World} {base : Nat} {spare : Nat → Bool} {held : Bool}
theorem tw_leaf : ∀ (f : Nat) (t : TypeId) (off0 o : Nat) (lt : TypeId), (o, lt) ∈ leavesAt P f off0 t → ∀ (cs : List Value), TW enc P w base spare held t cs →
    off0 ≤ o ∧ ∃ c, cs[o - off0]? = some c ∧ TW enc P w base spare held lt [c]
  | 0, _, _, _, _, h, _, _ => by simp [leavesAt] at h
  | f + 1, t, off0, o, lt, h, cs, ⟨fu, x, hx, hw⟩ => by
    unfold leavesAt at h
    split at h
    · rename_i fs hu
      obtain ⟨fd, hfd, hm⟩ := List.mem_flatMap.1 h
      obtain ⟨ys, n', _, hxe, hlen, hyl, hf⟩ := DataW.trod_struct hu hx
      obtain ⟨j, hj⟩ := List.getElem?_of_mem hfd
      have hj' : fs[j]? = some fd := by simpa using hj
      have h1 := hf j fd hj'
      have hjl : j < ys.length := by rw [hyl]; exact (Array.getElem?_eq_some_iff.1 hj').1
      rw [List.getElem?_eq_getElem hjl] at h1
      have hwj : ∀ n ∈ (ys[j]).1.weights P fd.type, n ≤ reachBytes := fun n hn => hw n (by
        rw [hxe]
        simp only [DataW.weights, hu]
        exact DataW.weights_mem_each (j := j) (t := fd.type) (d := ys[j].1) (by simp [hj']) (by simp [hjl]) n hn)
      obtain ⟨hle, c, hc, hy⟩ := tw_leaf f fd.type (off0 + fd.offset) o lt hm _ ⟨_, _, h1, hwj⟩
      refine ⟨by omega, c, ?_, hy⟩
      rw [List.getElem?_take] at hc
      split at hc
      · rw [List.getElem?_drop] at hc
        rw [← hc]; congr 1; omega
      · cases hc
    · rename_i k e hu
      obtain ⟨i, hi, hm⟩ := List.mem_flatMap.1 h
      rw [List.mem_range] at hi
      obtain ⟨ys, n', _, hxe, hlen, hyl, hf⟩ := DataW.trod_array hu hx
      have h1 := hf i hi
      have hjl : i < ys.length := by rw [hyl]; exact hi
      rw [List.getElem?_eq_getElem hjl] at h1
      have hwj : ∀ n ∈ (ys[i]).1.weights P e, n ≤ reachBytes := fun n hn => hw n (by
        rw [hxe]
        simp only [DataW.weights, hu]
        exact weights_mem_all (List.mem_map.2 ⟨ys[i], List.getElem_mem hjl, rfl⟩) n hn)
      obtain ⟨hle, c, hc, hy⟩ := tw_leaf f e (off0 + i * P.cellsOf e) o lt hm _ ⟨_, _, h1, hwj⟩
      refine ⟨by omega, c, ?_, hy⟩
      rw [List.getElem?_take] at hc
      split at hc
      · rw [List.getElem?_drop] at hc
        rw [← hc]; congr 1; omega
      · cases hc
    · rename_i hs ha
      simp only [List.mem_singleton, Prod.mk.injEq] at h
      obtain ⟨rfl, rfl⟩ := h
      obtain ⟨c, rfl⟩ := trod_single hx (fun fs hu => hs fs hu) (fun k e hu => ha k e hu)
      exact ⟨Nat.le_refl _, c, by simp, ⟨_, _, hx, hw⟩⟩
theorem tw_int {t : TypeId} {c : Value} (hti : P.underlying t = some (.int .i64)) (h : TW enc P w base spare held t [c]) : ∃ a : Int, c = .int .i64 a ∧ (-9223372036854775808 ≤ a ∧ a ≤ 9223372036854775807) := by
  obtain ⟨_, _, hy, _⟩ := h
  obtain ⟨a, e0, _, wa⟩ := DataW.trod_int hti hy
  simp at e0
  exact ⟨a, e0, bounds_i64 wa⟩
theorem tw_str {t : TypeId} {c : Value} (hti : P.underlying t = some .string) (h : TW enc P w base spare held t [c]) : ∃ l : List UInt8, c = .string ⟨l.toArray⟩ ∧ l.length ≤ reachBytes := by
  obtain ⟨_, x, hy, hw⟩ := h
  obtain ⟨s, e0, hx, _⟩ := DataW.trod_string hti hy
  simp at e0
  refine ⟨s.data.toList, by rw [e0], hw _ ?_⟩
  rw [hx]
  simp [DataW.weights]
theorem tw_slice {t e : TypeId} {c : Value} {sz bz : Nat} (hu : P.underlying t = some (.slice e)) (hsz : P.cellsOf e = sz) (hbz : P.bytesOf e = bz) (h0 : 0 < sz) (h : TW enc P w base spare held t [c]) :
    ∃ (A : Option Addr) (n k : Nat) (rows : List (List Value)), c = .slice A n k ∧ rows.length = n ∧ n * bz ≤ reachBytes ∧
      (0 < n → ∃ b off, A = some ⟨b, off, none⟩ ∧ b < w.heap.size ∧ ∀ i (hi : i < rows.length), rows[i].length = sz ∧ ∀ j, j < sz → w.cell? ⟨b, off + i * sz + j, none⟩ = rows[i][j]?) ∧
      ∀ r ∈ rows, TW enc P w base spare held e r := by
  obtain ⟨fu, x, hx, hw⟩ := h
  rcases DataW.trod_slice hu hx with ⟨e0, _⟩ | ⟨a, len, cap, elems, rest, n, _, e0, hxe, hb, hl, hm, hlen, hel, _, _⟩
  · simp at e0
    exact ⟨none, 0, 0, [], e0, rfl, by simp, fun h => absurd h (by omega), fun r hr => by cases hr⟩
  · simp only [List.cons.injEq, and_true] at e0
    rw [hsz] at hel
    have each : ∀ i, i < len → ∃ cs', w.cells? base (a.add (i * sz)) sz = some cs' ∧ TW enc P w base spare held e cs' := fun i hi => by
      have h1 := hel i hi
      have hil : i < elems.length := by omega
      rw [List.getElem?_eq_getElem hil] at h1
      obtain ⟨cs', h2, h3⟩ := Option.bind_eq_some_iff.1 h1
      refine ⟨cs', h2, _, _, h3, fun n hn => hw n ?_⟩
      rw [hxe]
      simp only [DataW.weights, hu]
      exact List.mem_cons.2 (.inr (List.mem_append.2 (.inl (weights_mem_all (List.mem_map.2 ⟨elems[i], List.getElem_mem hil, rfl⟩) n hn))))
    obtain ⟨g, hg⟩ : ∃ g : Nat → List Value, ∀ i, i < len → w.cells? base (a.add (i * sz)) sz = some (g i) ∧ TW enc P w base spare held e (g i) :=
      ⟨fun i => if h : i < len then Classical.choose (each i h) else [], fun i hi => by simp only [hi, dif_pos]; exact Classical.choose_spec (each i hi)⟩
    refine ⟨some a, len, cap, (List.range len).map g, e0, by simp, ?_, fun hn => ?_, fun r hr => ?_⟩
    · have : (elems.length + rest.length) * bz ≤ reachBytes := hw _ (by
        rw [hxe]
        simp only [DataW.weights, hu, hbz, List.length_map]
        exact List.mem_cons_self)
      exact Nat.le_trans (Nat.mul_le_mul_right _ (by omega)) this
    · obtain ⟨b, o, s⟩ := a
      obtain ⟨_, hlen0, hat0⟩ := World.cells?_some (hg 0 hn).1
      have q0 := hat0 0 h0
      have hb0 : (⟨b, o, s⟩ : Addr).add (0 * sz) = ⟨b, o, s⟩ := by
        cases s <;> simp [Addr.add]
      rw [hb0] at q0
      have q1 : ∃ u, w.cell? ((⟨b, o, s⟩ : Addr).add 0) = some u := by
        rw [q0]
        exact ⟨(g 0)[0]'(by omega), List.getElem?_eq_getElem (by omega)⟩
      obtain ⟨u, hu0⟩ := q1
      have hs : b < w.heap.size ∧ s = none := by
        have : w.cell? ⟨b, (⟨b, o, s⟩ : Addr).add 0 |>.off, s⟩ = some u := by
          rw [← hu0]
          cases s <;> simp [Addr.add]
        unfold World.cell? at this
        rcases Nat.lt_or_ge b w.heap.size with hb | hb
        · refine ⟨hb, ?_⟩
          cases s with
          | none => rfl
          | some k =>
            simp only [Option.isSome_some, if_true] at this
            split at this <;> cases this
        · simp only [Array.getElem?_eq_none hb] at this; cases this
      obtain ⟨hlt, rfl⟩ := hs
      refine ⟨b, o, rfl, hlt, fun i hi => ?_⟩
      have hi' : i < len := by simpa using hi
      obtain ⟨_, hl2, hat⟩ := World.cells?_some (hg i hi').1
      simp only [List.getElem_map, List.getElem_range]
      refine ⟨hl2, fun j hj => ?_⟩
      have := hat j hj
      rw [addr_addN, addr_addN] at this
      exact this
    · obtain ⟨i, hi, rfl⟩ := List.mem_map.1 hr
      exact (hg i (by simpa using hi)).2
theorem list_of {α β : Type} (f : β → α) (Q : β → Prop) : ∀ (l : List α), (∀ r ∈ l, ∃ q, r = f q ∧ Q q) → ∃ ps : List β, l = ps.map f ∧ ∀ q ∈ ps, Q q
  | [], _ => ⟨[], rfl, fun q hq => by cases hq⟩
  | a :: l, h => by
    obtain ⟨q, rfl, hq⟩ := h a (by simp)
    obtain ⟨ps, hl, hps⟩ := list_of f Q l (fun r hr => h r (by simp [hr]))
    refine ⟨q :: ps, by rw [hl]; rfl, fun p hp => ?_⟩
    rcases List.mem_cons.1 hp with rfl | hp
    · exact hq
    · exact hps p hp
end
end Go.Proofs.YtdkgbdecmgligaaGreatDoor

/- An argument that is a scene, opened whole. -/
namespace Go.Proofs.YtdkgbdecmgligaaGreatDoor
open Go.ChangeShapes Go.WideShapes Go.ChangeAt Go.RowKit
set_option linter.unusedVariables false
set_option linter.unusedSimpArgs false
set_option maxRecDepth 100000
theorem reach_num : reachBytes = 140737488351232 := rfl
/-- A scene's numbers and rows, as any may be handed in. -/
structure RawG (W : World) (gs : GS) (aL aM aT aS aC : Option Addr) : Prop where
  lc : gs.cam.length = 16
  ic : i64L gs.cam
  ls : gs.sky.length = 3
  is : i64L gs.sky
  nl : gs.lights.length ≤ reachBytes
  pl : ∀ q ∈ gs.lights, q.length = 6 ∧ i64L q
  nm : gs.mats.length ≤ reachBytes
  pm : ∀ q ∈ gs.mats, q.1.length ≤ reachBytes ∧ q.2.length = 8 ∧ i64L q.2
  nt : gs.texs.length ≤ reachBytes
  pt : ∀ q ∈ gs.texs, q.1.length ≤ reachBytes ∧ 2 ≤ q.2.length ∧ q.2.length ≤ reachBytes + 2 ∧ i64L q.2
  ns : gs.skins.length ≤ reachBytes
  ps : ∀ q ∈ gs.skins, q.1.length ≤ reachBytes ∧ q.2.length = 5 ∧ i64L q.2
  nc : gs.cages.length ≤ reachBytes
  pc : ∀ c ∈ gs.cages, (∀ q ∈ c.verts, q.length = 3 ∧ i64L q) ∧ (∀ q ∈ c.faces, q.length ≤ reachBytes ∧ i64L q) ∧ (∀ q ∈ c.creases, q.length = 3 ∧ i64L q) ∧ c.verts.length ≤ reachBytes ∧ c.faces.length ≤ reachBytes ∧ c.creases.length ≤ reachBytes
  rl : RB W.heap.size 6 W aL (gs.lights.map lRow)
  rm : RB W.heap.size 9 W aM (gs.mats.map mRow)
  rt : TRB W.heap.size W aT gs.texs
  rs : RB W.heap.size 6 W aS (gs.skins.map sRow)
  rc : 0 < gs.cages.length → ∃ b off, aC = some ⟨b, off, none⟩ ∧ Kp W.heap.size W b ∧ ∀ i (h : i < gs.cages.length), ∃ A1 A2 A3 c1 c2 c3, (W.cell? ⟨b, off + i * 3, none⟩ = some (.slice A1 gs.cages[i].verts.length c1) ∧ W.cell? ⟨b, off + i * 3 + 1, none⟩ = some (.slice A2 gs.cages[i].faces.length c2) ∧ W.cell? ⟨b, off + i * 3 + 2, none⟩ = some (.slice A3 gs.cages[i].creases.length c3)) ∧ RB W.heap.size 3 W A1 (gs.cages[i].verts.map vRow) ∧ FRB W.heap.size W A2 gs.cages[i].faces ∧ RB W.heap.size 3 W A3 (gs.cages[i].creases.map vRow)
section
variable {H : Type} {enc : TypeId × Value → H} {w : World} {base : Nat} {spare : Nat → Bool} {held : Bool}
theorem row_ints {t : TypeId} {k : Nat} {r : List Value} (hl : leavesAt Tryz.prog 10 0 t = (List.range k).map fun i => (i, 3)) (hk : r.length = k) (h : TW enc Tryz.prog w base spare held t r) :
    ∃ l : List Int, l.length = k ∧ i64L l ∧ ∀ i, i < k → r[i]? = some (.int .i64 (l.getD i 0)) := by
  obtain ⟨fu, x, hx, _⟩ := h
  obtain ⟨g, hg, hb⟩ := ints_trod hl Tryz.underlying3 hk hx
  refine ⟨(List.range k).map g, by simp, fun y hy => ?_, fun i hi => ?_⟩
  · obtain ⟨i, hi, rfl⟩ := List.mem_map.1 hy
    exact hb i (by simpa using hi)
  · rw [hg]
    simp [hi]
theorem ext_k {r s : List Value} {k : Nat} (hr : r.length = k) (hs : s.length = k) (h : ∀ i, i < k → r[i]? = s[i]?) : r = s := by
  apply List.ext_getElem?
  intro i
  by_cases hi : i < k
  · exact h i hi
  · rw [List.getElem?_eq_none (by omega), List.getElem?_eq_none (by omega)]
theorem len_rows {sz : Nat} {A : Option Addr} {n : Nat} {rows : List (List Value)} (hn : rows.length = n) (h : 0 < n → ∃ b off, A = some ⟨b, off, none⟩ ∧ b < w.heap.size ∧ ∀ i (hi : i < rows.length), rows[i].length = sz ∧ ∀ j, j < sz → w.cell? ⟨b, off + i * sz + j, none⟩ = rows[i][j]?) : ∀ r ∈ rows, r.length = sz := fun r hr => by
  obtain ⟨i, hi, rfl⟩ := List.getElem_of_mem hr
  obtain ⟨b, off, _, _, hc⟩ := h (by omega)
  exact (hc i hi).1
theorem RB_of {sz : Nat} {A : Option Addr} {n : Nat} {rows : List (List Value)} (hn : rows.length = n) (h : 0 < n → ∃ b off, A = some ⟨b, off, none⟩ ∧ b < w.heap.size ∧ ∀ i (hi : i < rows.length), rows[i].length = sz ∧ ∀ j, j < sz → w.cell? ⟨b, off + i * sz + j, none⟩ = rows[i][j]?) : RB w.heap.size sz w A rows := fun h0 => by
  obtain ⟨b, off, e, hb, hc⟩ := h (by omega)
  exact ⟨b, off, e, ⟨hb, .inl hb⟩, hc⟩
theorem szV : Tryz.prog.cellsOf 23 = 3 := by kernel_rfl
theorem szCr : Tryz.prog.cellsOf 98 = 3 := by kernel_rfl
theorem szLi : Tryz.prog.cellsOf 76 = 6 := by kernel_rfl
theorem szMa : Tryz.prog.cellsOf 53 = 9 := by kernel_rfl
theorem szTe : Tryz.prog.cellsOf 51 = 4 := by kernel_rfl
theorem szSk : Tryz.prog.cellsOf 55 = 6 := by kernel_rfl
theorem szCg : Tryz.prog.cellsOf 48 = 3 := by kernel_rfl
theorem szIn : Tryz.prog.cellsOf 3 = 1 := by kernel_rfl
theorem szIs : Tryz.prog.cellsOf 49 = 1 := by kernel_rfl
theorem szSc : Tryz.prog.cellsOf 34 = 24 := by kernel_rfl
theorem byV : Tryz.prog.bytesOf 23 = 24 := by kernel_rfl
theorem byCr : Tryz.prog.bytesOf 98 = 24 := by kernel_rfl
theorem byLi : Tryz.prog.bytesOf 76 = 48 := by kernel_rfl
theorem byMa : Tryz.prog.bytesOf 53 = 80 := by kernel_rfl
theorem byTe : Tryz.prog.bytesOf 51 = 56 := by kernel_rfl
theorem bySk : Tryz.prog.bytesOf 55 = 56 := by kernel_rfl
theorem byCg : Tryz.prog.bytesOf 48 = 72 := by kernel_rfl
theorem byIn : Tryz.prog.bytesOf 3 = 8 := by kernel_rfl
theorem byIs : Tryz.prog.bytesOf 49 = 24 := by kernel_rfl
theorem lvI : leavesAt Tryz.prog 10 0 3 = (List.range 1).map fun i => (i, 3) := by kernel_rfl
theorem lvV : leavesAt Tryz.prog 10 0 23 = (List.range 3).map fun i => (i, 3) := by kernel_rfl
theorem lvCr : leavesAt Tryz.prog 10 0 98 = (List.range 3).map fun i => (i, 3) := by kernel_rfl
theorem lvLi : leavesAt Tryz.prog 10 0 76 = (List.range 6).map fun i => (i, 3) := by kernel_rfl
theorem lvMa : leavesAt Tryz.prog 10 0 53 = (0, 9) :: (List.range 8).map fun i => (i + 1, 3) := by kernel_rfl
theorem lvTe : leavesAt Tryz.prog 10 0 51 = [(0, 9), (1, 3), (2, 3), (3, 49)] := by kernel_rfl
theorem lvSk : leavesAt Tryz.prog 10 0 55 = (0, 9) :: (List.range 5).map fun i => (i + 1, 3) := by kernel_rfl
theorem lvCg : leavesAt Tryz.prog 10 0 48 = [(0, 44), (1, 45), (2, 46)] := by kernel_rfl
theorem lvSc : leavesAt Tryz.prog 10 0 34 = ((List.range 19).map fun i => (i, 3)) ++ [(19, 28), (20, 29), (21, 30), (22, 31), (23, 32)] := by kernel_rfl
/-- A list of ints. -/
theorem tw_ints {c : Value} (h : TW enc Tryz.prog w base spare held 49 [c]) : ∃ (A : Option Addr) (k : Nat) (l : List Int), c = .slice A l.length k ∧ l.length ≤ reachBytes ∧ i64L l ∧ NFB w.heap.size w A l := by
  obtain ⟨A, n, k, rows, rfl, hn, hb, hr, ht⟩ := tw_slice Tryz.underlying49 szIn byIn (by omega) h
  have hl := len_rows hn hr
  obtain ⟨ps, rfl, hps⟩ := list_of (fun x : Int => [Value.int .i64 x]) (fun x => -9223372036854775808 ≤ x ∧ x ≤ 9223372036854775807) rows (fun r hr => by
    obtain ⟨l, h1, h2, h3⟩ := row_ints lvI (hl r hr) (ht r hr)
    obtain ⟨x, rfl⟩ : ∃ x, l = [x] := by
      match l, h1 with
      | [x], _ => exact ⟨x, rfl⟩
    exact ⟨x, ext_k (hl r hr) rfl (fun i hi => by obtain rfl : i = 0 := by omega
                                                  rw [h3 0 (by omega)]; rfl), h2 x (by simp)⟩)
  have hn2 : ps.length = n := by simpa using hn
  refine ⟨A, k, ps, by rw [hn2], by omega, hps, fun h0 => ?_⟩
  obtain ⟨b, off, e, hb, hc⟩ := hr (by omega)
  refine ⟨b, off, e, ⟨hb, .inl hb⟩, fun i hi => ?_⟩
  have := (hc i (by simpa using hi)).2 0 (by omega)
  rw [Nat.add_zero, Nat.mul_one] at this
  rw [this, List.getElem_map]; rfl
/-- A list of structs of k ints. -/
theorem tw_structs {t e : TypeId} {k bz : Nat} {c : Value} (f : List Int → List Value) (hu : Tryz.prog.underlying t = some (.slice e)) (hsz : Tryz.prog.cellsOf e = k) (hbz : Tryz.prog.bytesOf e = bz) (h1 : 1 ≤ bz) (h0 : 0 < k) (hl : leavesAt Tryz.prog 10 0 e = (List.range k).map fun i => (i, 3)) (hf : ∀ l, (f l).length = k ∧ ∀ i, i < k → (f l)[i]? = some (.int .i64 (l.getD i 0))) (h : TW enc Tryz.prog w base spare held t [c]) :
    ∃ (A : Option Addr) (kk : Nat) (ps : List (List Int)), c = .slice A ps.length kk ∧ ps.length ≤ reachBytes ∧ (∀ q ∈ ps, q.length = k ∧ i64L q) ∧ RB w.heap.size k w A (ps.map f) := by
  obtain ⟨A, n, kk, rows, rfl, hn, hb, hr, ht⟩ := tw_slice hu hsz hbz h0 h
  have hln := len_rows hn hr
  obtain ⟨ps, rfl, hps⟩ := list_of f (fun q => q.length = k ∧ i64L q) rows (fun r hr => by
    obtain ⟨l, q1, q2, q3⟩ := row_ints hl (hln r hr) (ht r hr)
    exact ⟨l, ext_k (hln r hr) (hf l).1 (fun i hi => by rw [q3 i hi, (hf l).2 i hi]), q1, q2⟩)
  have hn2 : ps.length = n := by simpa using hn
  exact ⟨A, kk, ps, by rw [hn2], by have := Nat.mul_le_mul_left n h1; omega, hps, RB_of hn hr⟩
/-- A list of structs of a string and k ints. -/
theorem tw_named {t e : TypeId} {k bz : Nat} {c : Value} (f : Wd × List Int → List Value) (hu : Tryz.prog.underlying t = some (.slice e)) (hsz : Tryz.prog.cellsOf e = k + 1) (hbz : Tryz.prog.bytesOf e = bz) (h1 : 1 ≤ bz) (hl : leavesAt Tryz.prog 10 0 e = (0, 9) :: (List.range k).map fun i => (i + 1, 3)) (hf : ∀ q, (f q).length = k + 1 ∧ (f q)[0]? = some (.string ⟨q.1.toArray⟩) ∧ ∀ i, i < k → (f q)[i + 1]? = some (.int .i64 (q.2.getD i 0))) (h : TW enc Tryz.prog w base spare held t [c]) :
    ∃ (A : Option Addr) (kk : Nat) (ps : List (Wd × List Int)), c = .slice A ps.length kk ∧ ps.length ≤ reachBytes ∧ (∀ q ∈ ps, q.1.length ≤ reachBytes ∧ q.2.length = k ∧ i64L q.2) ∧ RB w.heap.size (k + 1) w A (ps.map f) := by
  obtain ⟨A, n, kk, rows, rfl, hn, hb, hr, ht⟩ := tw_slice hu hsz hbz (by omega) h
  have hln := len_rows hn hr
  obtain ⟨ps, rfl, hps⟩ := list_of f (fun q => q.1.length ≤ reachBytes ∧ q.2.length = k ∧ i64L q.2) rows (fun r hr => by
    obtain ⟨_, c0, hc0, ht0⟩ := tw_leaf 10 e 0 0 9 (by rw [hl]; simp) r (ht r hr)
    obtain ⟨nm, rfl, hnm⟩ := tw_str Tryz.underlying9 ht0
    have each : ∀ i, i < k → ∃ a : Int, r[i + 1]? = some (.int .i64 a) ∧ (-9223372036854775808 ≤ a ∧ a ≤ 9223372036854775807) := fun i hi => by
      obtain ⟨_, c1, hc1, ht1⟩ := tw_leaf 10 e 0 (i + 1) 3 (by rw [hl]; exact List.mem_cons.2 (.inr (List.mem_map.2 ⟨i, by simpa using hi, rfl⟩))) r (ht r hr)
      obtain ⟨a, rfl, ha⟩ := tw_int Tryz.underlying3 ht1
      exact ⟨a, by simpa using hc1, ha⟩
    obtain ⟨g, hg⟩ : ∃ g : Nat → Int, ∀ i, i < k → r[i + 1]? = some (.int .i64 (g i)) ∧ (-9223372036854775808 ≤ g i ∧ g i ≤ 9223372036854775807) :=
      ⟨fun i => if h : i < k then Classical.choose (each i h) else 0, fun i hi => by simp only [hi, dif_pos]; exact Classical.choose_spec (each i hi)⟩
    refine ⟨(nm, (List.range k).map g), ext_k (hln r hr) (hf _).1 (fun i hi => ?_), hnm, by simp, fun y hy => ?_⟩
    · cases i with
      | zero => rw [(hf _).2.1]; simpa using hc0
      | succ i => rw [(hf _).2.2 i (by omega), (hg i (by omega)).1]; simp [show i < k by omega]
    · obtain ⟨i, hi, rfl⟩ := List.mem_map.1 hy
      exact (hg i (by simpa using hi)).2)
  have hn2 : ps.length = n := by simpa using hn
  exact ⟨A, kk, ps, by rw [hn2], by have := Nat.mul_le_mul_left n h1; omega, hps, RB_of hn hr⟩
theorem cases3 {i : Nat} (h : i < 3) : i = 0 ∨ i = 1 ∨ i = 2 := by omega
theorem tw_Vs {c : Value} (h : TW enc Tryz.prog w base spare held 44 [c]) : ∃ (A : Option Addr) (kk : Nat) (ps : List (List Int)), c = .slice A ps.length kk ∧ ps.length ≤ reachBytes ∧ (∀ q ∈ ps, q.length = 3 ∧ i64L q) ∧ RB w.heap.size 3 w A (ps.map vRow) :=
  tw_structs vRow Tryz.underlying44 szV byV (by omega) (by omega) lvV (fun l => ⟨rfl, fun i hi => by rcases cases3 hi with rfl | rfl | rfl <;> rfl⟩) h
theorem tw_Crs {c : Value} (h : TW enc Tryz.prog w base spare held 46 [c]) : ∃ (A : Option Addr) (kk : Nat) (ps : List (List Int)), c = .slice A ps.length kk ∧ ps.length ≤ reachBytes ∧ (∀ q ∈ ps, q.length = 3 ∧ i64L q) ∧ RB w.heap.size 3 w A (ps.map vRow) :=
  tw_structs vRow Tryz.underlying46 szCr byCr (by omega) (by omega) lvCr (fun l => ⟨rfl, fun i hi => by rcases cases3 hi with rfl | rfl | rfl <;> rfl⟩) h
theorem tw_Lis {c : Value} (h : TW enc Tryz.prog w base spare held 28 [c]) : ∃ (A : Option Addr) (kk : Nat) (ps : List (List Int)), c = .slice A ps.length kk ∧ ps.length ≤ reachBytes ∧ (∀ q ∈ ps, q.length = 6 ∧ i64L q) ∧ RB w.heap.size 6 w A (ps.map lRow) :=
  tw_structs lRow Tryz.underlying28 szLi byLi (by omega) (by omega) lvLi (fun l => ⟨rfl, fun i hi => by rcases (by omega : i = 0 ∨ i = 1 ∨ i = 2 ∨ i = 3 ∨ i = 4 ∨ i = 5) with rfl | rfl | rfl | rfl | rfl | rfl <;> rfl⟩) h
theorem tw_Mas {c : Value} (h : TW enc Tryz.prog w base spare held 29 [c]) : ∃ (A : Option Addr) (kk : Nat) (ps : List (Wd × List Int)), c = .slice A ps.length kk ∧ ps.length ≤ reachBytes ∧ (∀ q ∈ ps, q.1.length ≤ reachBytes ∧ q.2.length = 8 ∧ i64L q.2) ∧ RB w.heap.size 9 w A (ps.map mRow) :=
  tw_named mRow Tryz.underlying29 szMa byMa (by omega) lvMa (fun l => ⟨rfl, rfl, fun i hi => by rcases (by omega : i = 0 ∨ i = 1 ∨ i = 2 ∨ i = 3 ∨ i = 4 ∨ i = 5 ∨ i = 6 ∨ i = 7) with rfl | rfl | rfl | rfl | rfl | rfl | rfl | rfl <;> rfl⟩) h
theorem tw_Sks {c : Value} (h : TW enc Tryz.prog w base spare held 31 [c]) : ∃ (A : Option Addr) (kk : Nat) (ps : List (Wd × List Int)), c = .slice A ps.length kk ∧ ps.length ≤ reachBytes ∧ (∀ q ∈ ps, q.1.length ≤ reachBytes ∧ q.2.length = 5 ∧ i64L q.2) ∧ RB w.heap.size 6 w A (ps.map sRow) :=
  tw_named sRow Tryz.underlying31 szSk bySk (by omega) lvSk (fun l => ⟨rfl, rfl, fun i hi => by rcases (by omega : i = 0 ∨ i = 1 ∨ i = 2 ∨ i = 3 ∨ i = 4) with rfl | rfl | rfl | rfl | rfl <;> rfl⟩) h
/-- A list of rows of something. -/
theorem tw_rows {t e : TypeId} {sz bz : Nat} {c : Value} {β : Type} (F : List Value → β → Prop) (hu : Tryz.prog.underlying t = some (.slice e)) (hsz : Tryz.prog.cellsOf e = sz) (hbz : Tryz.prog.bytesOf e = bz) (h1 : 1 ≤ bz) (h0 : 0 < sz) (hF : ∀ r : List Value, r.length = sz → TW enc Tryz.prog w base spare held e r → ∃ q, F r q) (h : TW enc Tryz.prog w base spare held t [c]) :
    ∃ (A : Option Addr) (kk : Nat) (ps : List β), c = .slice A ps.length kk ∧ ps.length ≤ reachBytes ∧ (∀ q ∈ ps, ∃ r, F r q) ∧ (0 < ps.length → ∃ b off, A = some ⟨b, off, none⟩ ∧ Kp w.heap.size w b ∧ ∀ i (hi : i < ps.length), ∃ r, F r ps[i] ∧ ∀ j, j < sz → w.cell? ⟨b, off + i * sz + j, none⟩ = r[j]?) := by
  obtain ⟨A, n, kk, rows, rfl, hn, hb, hr, ht⟩ := tw_slice hu hsz hbz h0 h
  have hln := len_rows hn hr
  have hm : ∀ rows : List (List Value), (∀ r ∈ rows, ∃ q, F r q) → ∃ ps : List β, ps.length = rows.length ∧ ∀ i (h1 : i < rows.length) (h2 : i < ps.length), F rows[i] ps[i] := by
    intro rows
    induction rows with
    | nil => exact fun _ => ⟨[], rfl, fun i h1 _ => absurd h1 (by simp)⟩
    | cons a l ih =>
      intro h
      obtain ⟨q, hq⟩ := h a (by simp)
      obtain ⟨ps, hl, hps⟩ := ih (fun r hr => h r (by simp [hr]))
      refine ⟨q :: ps, by simp [hl], fun i h1 h2 => ?_⟩
      cases i with
      | zero => exact hq
      | succ i => exact hps i (by simpa using h1) (by simpa using h2)
  obtain ⟨ps, hl, hps⟩ := hm rows (fun r hr => hF r (hln r hr) (ht r hr))
  refine ⟨A, kk, ps, by rw [hl, hn], by have := Nat.mul_le_mul_left n h1; omega, fun q hq => ?_, fun hp => ?_⟩
  · obtain ⟨i, hi, rfl⟩ := List.getElem_of_mem hq
    exact ⟨_, hps i (by omega) hi⟩
  · obtain ⟨b, off, e, hb2, hc⟩ := hr (by omega)
    exact ⟨b, off, e, ⟨hb2, .inl hb2⟩, fun i hi => ⟨_, hps i (by omega) hi, (hc i (by omega)).2⟩⟩
theorem tw_faces {c : Value} (h : TW enc Tryz.prog w base spare held 45 [c]) : ∃ (A : Option Addr) (kk : Nat) (ps : List (List Int)), c = .slice A ps.length kk ∧ ps.length ≤ reachBytes ∧ (∀ q ∈ ps, q.length ≤ reachBytes ∧ i64L q) ∧ FRB w.heap.size w A ps := by
  obtain ⟨A, kk, ps, e, hl, hq, hr⟩ := tw_rows (β := List Int) (fun r q => ∃ B m, r = [.slice B q.length m] ∧ q.length ≤ reachBytes ∧ i64L q ∧ NFB w.heap.size w B q) Tryz.underlying45 szIs byIs (by omega) (by omega) (fun r hr1 ht => by
    obtain ⟨_, c0, hc0, ht0⟩ := tw_leaf 10 49 0 0 49 (by rw [show leavesAt Tryz.prog 10 0 49 = [(0, 49)] by kernel_rfl]; simp) r ht
    obtain ⟨B, m, l, rfl, h2, h3, h4⟩ := tw_ints ht0
    exact ⟨l, B, m, ext_k hr1 rfl (fun i hi => by obtain rfl : i = 0 := by omega
                                                  simpa using hc0), h2, h3, h4⟩) h
  refine ⟨A, kk, ps, e, hl, fun q hq' => ?_, fun h0 => ?_⟩
  · obtain ⟨r, B, m, _, h2, h3, _⟩ := hq q hq'
    exact ⟨h2, h3⟩
  · obtain ⟨b, off, e, hk, hc⟩ := hr h0
    refine ⟨b, off, e, hk, fun i hi => ?_⟩
    obtain ⟨r, ⟨B, m, rfl, _, _, h4⟩, h5⟩ := hc i hi
    have := h5 0 (by omega)
    rw [Nat.add_zero, Nat.mul_one] at this
    exact ⟨B, m, this, h4⟩
theorem tw_Tes {c : Value} (h : TW enc Tryz.prog w base spare held 30 [c]) : ∃ (A : Option Addr) (kk : Nat) (ps : List (Wd × List Int)), c = .slice A ps.length kk ∧ ps.length ≤ reachBytes ∧ (∀ q ∈ ps, q.1.length ≤ reachBytes ∧ 2 ≤ q.2.length ∧ q.2.length ≤ reachBytes + 2 ∧ i64L q.2) ∧ TRB w.heap.size w A ps := by
  obtain ⟨A, kk, ps, e, hl, hq, hr⟩ := tw_rows (β := Wd × List Int) (fun r q => ∃ B m, r = tRow q B m ∧ (q.1.length ≤ reachBytes ∧ 2 ≤ q.2.length ∧ q.2.length ≤ reachBytes + 2 ∧ i64L q.2) ∧ NFB w.heap.size w B (q.2.drop 2)) Tryz.underlying30 szTe byTe (by omega) (by omega) (fun r hr1 ht => by
    obtain ⟨_, c0, hc0, ht0⟩ := tw_leaf 10 51 0 0 9 (by rw [lvTe]; simp) r ht
    obtain ⟨_, c1, hc1, ht1⟩ := tw_leaf 10 51 0 1 3 (by rw [lvTe]; simp) r ht
    obtain ⟨_, c2, hc2, ht2⟩ := tw_leaf 10 51 0 2 3 (by rw [lvTe]; simp) r ht
    obtain ⟨_, c3, hc3, ht3⟩ := tw_leaf 10 51 0 3 49 (by rw [lvTe]; simp) r ht
    obtain ⟨nm, rfl, hnm⟩ := tw_str Tryz.underlying9 ht0
    obtain ⟨x, rfl, hx⟩ := tw_int Tryz.underlying3 ht1
    obtain ⟨y, rfl, hy⟩ := tw_int Tryz.underlying3 ht2
    obtain ⟨B, m, l, rfl, h2, h3, h4⟩ := tw_ints ht3
    refine ⟨(nm, x :: y :: l), B, m, ext_k hr1 rfl (fun i hi => ?_), ⟨hnm, by simp, by simp; omega, fun z hz => ?_⟩, h4⟩
    · rcases (by omega : i = 0 ∨ i = 1 ∨ i = 2 ∨ i = 3) with rfl | rfl | rfl | rfl
      · show r[0]? = some _; simpa using hc0
      · show r[1]? = some _; simpa using hc1
      · show r[2]? = some _; simpa using hc2
      · show r[3]? = some _; simpa using hc3
    · simp only [List.mem_cons] at hz
      rcases hz with rfl | rfl | hz
      · exact hx
      · exact hy
      · exact h3 z hz) h
  refine ⟨A, kk, ps, e, hl, fun q hq' => ?_, fun h0 => ?_⟩
  · obtain ⟨r, B, m, _, h2, _⟩ := hq q hq'
    exact h2
  · obtain ⟨b, off, e, hk, hc⟩ := hr h0
    refine ⟨b, off, e, hk, fun i hi => ?_⟩
    obtain ⟨r, ⟨B, m, rfl, _, h4⟩, h5⟩ := hc i hi
    exact ⟨B, m, h5, h4⟩
theorem tw_Cgs {c : Value} (h : TW enc Tryz.prog w base spare held 32 [c]) : ∃ (A : Option Addr) (kk : Nat) (ps : List CageM), c = .slice A ps.length kk ∧ ps.length ≤ reachBytes ∧ (∀ c ∈ ps, (∀ q ∈ c.verts, q.length = 3 ∧ i64L q) ∧ (∀ q ∈ c.faces, q.length ≤ reachBytes ∧ i64L q) ∧ (∀ q ∈ c.creases, q.length = 3 ∧ i64L q) ∧ c.verts.length ≤ reachBytes ∧ c.faces.length ≤ reachBytes ∧ c.creases.length ≤ reachBytes) ∧
    (0 < ps.length → ∃ b off, A = some ⟨b, off, none⟩ ∧ Kp w.heap.size w b ∧ ∀ i (h : i < ps.length), ∃ A1 A2 A3 c1 c2 c3, (w.cell? ⟨b, off + i * 3, none⟩ = some (.slice A1 ps[i].verts.length c1) ∧ w.cell? ⟨b, off + i * 3 + 1, none⟩ = some (.slice A2 ps[i].faces.length c2) ∧ w.cell? ⟨b, off + i * 3 + 2, none⟩ = some (.slice A3 ps[i].creases.length c3)) ∧ RB w.heap.size 3 w A1 (ps[i].verts.map vRow) ∧ FRB w.heap.size w A2 ps[i].faces ∧ RB w.heap.size 3 w A3 (ps[i].creases.map vRow)) := by
  obtain ⟨A, kk, ps, e, hl, hq, hr⟩ := tw_rows (β := CageM) (fun r q => ∃ A1 A2 A3 c1 c2 c3, r = [.slice A1 q.verts.length c1, .slice A2 q.faces.length c2, .slice A3 q.creases.length c3] ∧ ((∀ z ∈ q.verts, z.length = 3 ∧ i64L z) ∧ (∀ z ∈ q.faces, z.length ≤ reachBytes ∧ i64L z) ∧ (∀ z ∈ q.creases, z.length = 3 ∧ i64L z) ∧ q.verts.length ≤ reachBytes ∧ q.faces.length ≤ reachBytes ∧ q.creases.length ≤ reachBytes) ∧ RB w.heap.size 3 w A1 (q.verts.map vRow) ∧ FRB w.heap.size w A2 q.faces ∧ RB w.heap.size 3 w A3 (q.creases.map vRow)) Tryz.underlying32 szCg byCg (by omega) (by omega) (fun r hr1 ht => by
    obtain ⟨_, d0, hc0, ht0⟩ := tw_leaf 10 48 0 0 44 (by rw [lvCg]; simp) r ht
    obtain ⟨_, d1, hc1, ht1⟩ := tw_leaf 10 48 0 1 45 (by rw [lvCg]; simp) r ht
    obtain ⟨_, d2, hc2, ht2⟩ := tw_leaf 10 48 0 2 46 (by rw [lvCg]; simp) r ht
    obtain ⟨A1, k1, vs, rfl, l1, p1, r1⟩ := tw_Vs ht0
    obtain ⟨A2, k2, fs, rfl, l2, p2, r2⟩ := tw_faces ht1
    obtain ⟨A3, k3, cs, rfl, l3, p3, r3⟩ := tw_Crs ht2
    refine ⟨⟨vs, fs, cs⟩, A1, A2, A3, k1, k2, k3, ext_k hr1 rfl (fun i hi => ?_), ⟨p1, p2, p3, l1, l2, l3⟩, r1, r2, r3⟩
    rcases cases3 hi with rfl | rfl | rfl
    · simpa using hc0
    · simpa using hc1
    · simpa using hc2) h
  refine ⟨A, kk, ps, e, hl, fun q hq' => ?_, fun h0 => ?_⟩
  · obtain ⟨r, A1, A2, A3, c1, c2, c3, _, h2, _⟩ := hq q hq'
    exact h2
  · obtain ⟨b, off, e, hk, hc⟩ := hr h0
    refine ⟨b, off, e, hk, fun i hi => ?_⟩
    obtain ⟨r, ⟨A1, A2, A3, c1, c2, c3, rfl, _, h4⟩, h5⟩ := hc i hi
    exact ⟨A1, A2, A3, c1, c2, c3, ⟨by have := h5 0 (by omega); rwa [Nat.add_zero] at this, h5 1 (by omega), h5 2 (by omega)⟩, h4⟩
/-- A scene that is handed in. -/
theorem open_Scene {cs : List Value} (hlen : cs.length = 24) (h : TW enc Tryz.prog w base spare held 34 cs) : ∃ (gs : GS) (aL aM aT aS aC : Option Addr) (cL cM cT cS cC : Nat), RawG w gs aL aM aT aS aC ∧ (∀ i, i < 16 → cs[i]? = some (.int .i64 (gs.cam.getD i 0))) ∧ (∀ i, i < 3 → cs[i + 16]? = some (.int .i64 (gs.sky.getD i 0))) ∧ cs[19]? = some (.slice aL gs.lights.length cL) ∧ cs[20]? = some (.slice aM gs.mats.length cM) ∧ cs[21]? = some (.slice aT gs.texs.length cT) ∧ cs[22]? = some (.slice aS gs.skins.length cS) ∧ cs[23]? = some (.slice aC gs.cages.length cC) := by
  have each : ∀ i, i < 19 → ∃ a : Int, cs[i]? = some (.int .i64 a) ∧ (-9223372036854775808 ≤ a ∧ a ≤ 9223372036854775807) := fun i hi => by
    obtain ⟨_, c1, hc1, ht1⟩ := tw_leaf 10 34 0 i 3 (by rw [lvSc]; exact List.mem_append.2 (.inl (List.mem_map.2 ⟨i, by simpa using hi, rfl⟩))) cs h
    obtain ⟨a, rfl, ha⟩ := tw_int Tryz.underlying3 ht1
    exact ⟨a, by simpa using hc1, ha⟩
  obtain ⟨g, hg⟩ : ∃ g : Nat → Int, ∀ i, i < 19 → cs[i]? = some (.int .i64 (g i)) ∧ (-9223372036854775808 ≤ g i ∧ g i ≤ 9223372036854775807) :=
    ⟨fun i => if h : i < 19 then Classical.choose (each i h) else 0, fun i hi => by simp only [hi, dif_pos]; exact Classical.choose_spec (each i hi)⟩
  obtain ⟨_, d0, e0, t0⟩ := tw_leaf 10 34 0 19 28 (by rw [lvSc]; simp) cs h
  obtain ⟨_, d1, e1, t1⟩ := tw_leaf 10 34 0 20 29 (by rw [lvSc]; simp) cs h
  obtain ⟨_, d2, e2, t2⟩ := tw_leaf 10 34 0 21 30 (by rw [lvSc]; simp) cs h
  obtain ⟨_, d3, e3, t3⟩ := tw_leaf 10 34 0 22 31 (by rw [lvSc]; simp) cs h
  obtain ⟨_, d4, e4, t4⟩ := tw_leaf 10 34 0 23 32 (by rw [lvSc]; simp) cs h
  obtain ⟨aL, cL, ls, rfl, l1, p1, r1⟩ := tw_Lis t0
  obtain ⟨aM, cM, ms, rfl, l2, p2, r2⟩ := tw_Mas t1
  obtain ⟨aT, cT, ts, rfl, l3, p3, r3⟩ := tw_Tes t2
  obtain ⟨aS, cS, ks, rfl, l4, p4, r4⟩ := tw_Sks t3
  obtain ⟨aC, cC, gs, rfl, l5, p5, r5⟩ := tw_Cgs t4
  refine ⟨⟨(List.range 16).map g, (List.range 3).map fun i => g (i + 16), ls, ms, ts, ks, gs⟩, aL, aM, aT, aS, aC, cL, cM, cT, cS, cC, ⟨by simp, fun y hy => ?_, by simp, fun y hy => ?_, l1, p1, l2, p2, l3, p3, l4, p4, l5, p5, r1, r2, r3, r4, r5⟩, fun i hi => ?_, fun i hi => ?_, by simpa using e0, by simpa using e1, by simpa using e2, by simpa using e3, by simpa using e4⟩
  · obtain ⟨i, hi, rfl⟩ := List.mem_map.1 hy
    exact (hg i (by have := List.mem_range.1 hi; omega)).2
  · obtain ⟨i, hi, rfl⟩ := List.mem_map.1 hy
    exact (hg (i + 16) (by have := List.mem_range.1 hi; omega)).2
  · rw [(hg i (by omega)).1]; simp [hi]
  · rw [(hg (i + 16) (by omega)).1]; simp [hi]
end
end Go.Proofs.YtdkgbdecmgligaaGreatDoor

/- Which scenes are looked at: the law's Great. -/
namespace Go.Proofs.YtdkgbdecmgligaaGreatDoor
open Go.RowKit
set_option linter.unusedVariables false
set_option linter.unusedSimpArgs false
set_option linter.unnecessarySimpa false
structure SmallG (gs : GS) : Prop where
  n5 : gs.lights.length + gs.texs.length + gs.mats.length + gs.skins.length + gs.cages.length ≤ 60
  tx : ∀ q ∈ gs.texs, q.1.length ≤ 100 ∧ (q.2.drop 2).length ≤ 5000
  mt : ∀ q ∈ gs.mats, q.1.length ≤ 100
  sk : ∀ q ∈ gs.skins, q.1.length ≤ 100
  cg : ∀ c ∈ gs.cages, c.verts.length ≤ 300 ∧ c.faces.length ≤ 300 ∧ c.creases.length ≤ 300 ∧ ∀ q ∈ c.faces, q.length ≤ 5000
def GreatP (gs : GS) (W : World) (e : Ending) (w' : World) : Prop := ∃ b : Bool, e = .returned (.bool b) ∧ (b = false → SmallG gs) ∧ Below W.heap.size W w'
theorem GreatP.yes {gs : GS} {W : World} {w' : World} (h : Below W.heap.size W w') : GreatP gs W (.returned (.bool true)) w' := ⟨true, rfl, fun h => (by cases h), h⟩
theorem GreatP.no {gs : GS} {W : World} {w' : World} (h : Below W.heap.size W w') (hs : SmallG gs) : GreatP gs W (.returned (.bool false)) w' := ⟨false, rfl, fun _ => hs, h⟩
theorem GreatP.dec {gs : GS} {W : World} {w' : World} {p : Prop} [Decidable p] (h : Below W.heap.size W w') (hs : SmallG gs) : GreatP gs W (.returned (.bool (decide p))) w' := ⟨_, rfl, fun _ => hs, h⟩
theorem take_all {α : Type} {Q : α → Prop} {l : List α} {j : Nat} (h1 : j < l.length) (h : ∀ q ∈ l.take j, Q q) (hj : Q l[j]) : ∀ q ∈ l.take (j + 1), Q q := fun q hq => by
  rw [List.take_succ_eq_append_getElem h1] at hq
  rcases List.mem_append.1 hq with hq | hq
  · exact h q hq
  · simp at hq; subst hq; exact hj
set_option maxRecDepth 100000 in
set_option maxHeartbeats 8000000 in
theorem great_w {cL cM cT cS cC : Nat} {aL aM aT aS aC : Option Addr} {W : World} (gs : GS) (hr : RawG W gs aL aM aT aS aC) (cs : Array Value) (hsz : cs.size = 24) (h19 : cs[19]? = some (.slice aL gs.lights.length cL)) (h20 : cs[20]? = some (.slice aM gs.mats.length cM)) (h21 : cs[21]? = some (.slice aT gs.texs.length cT)) (h22 : cs[22]? = some (.slice aS gs.skins.length cS)) (h23 : cs[23]? = some (.slice aC gs.cages.length cC)) :
    Calls Tryz.prog 8 #[.agg cs] W fun e w' => GreatP gs W e w' := by
  have lim := reach_num
  obtain ⟨nL, hnL⟩ : ∃ n, gs.lights.length = n := ⟨_, rfl⟩
  obtain ⟨nM, hnM⟩ : ∃ n, gs.mats.length = n := ⟨_, rfl⟩
  obtain ⟨nT, hnT⟩ : ∃ n, gs.texs.length = n := ⟨_, rfl⟩
  obtain ⟨nS, hnS⟩ : ∃ n, gs.skins.length = n := ⟨_, rfl⟩
  obtain ⟨nC, hnC⟩ : ∃ n, gs.cages.length = n := ⟨_, rfl⟩
  rw [hnL] at h19
  rw [hnM] at h20
  rw [hnT] at h21
  rw [hnS] at h22
  rw [hnC] at h23
  have mL : nL ≤ 140737488351232 := by have := hr.nl; rw [hnL, lim] at this; exact this
  have mM : nM ≤ 140737488351232 := by have := hr.nm; rw [hnM, lim] at this; exact this
  have mT : nT ≤ 140737488351232 := by have := hr.nt; rw [hnT, lim] at this; exact this
  have mS : nS ≤ 140737488351232 := by have := hr.ns; rw [hnS, lim] at this; exact this
  have mC : nC ≤ 140737488351232 := by have := hr.nc; rw [hnC, lim] at this; exact this
  have hb2 : Below W.heap.size W (W.alloc (.cells cs 34)) := bel_alloc (Below.refl _ _) _
  have KA : Blk (W.alloc (.cells cs 34)) W.heap.size 34 cs := Blk.new _ _ _ _ rfl
  go_enter Tryz.func8, Tryz.ntmps8
  go_upto_region 1 with fail
  generalize Value.agg cs = PA
  generalize hV : W.alloc (.cells cs 34) = V at *
  clear hV
  obtain ⟨q, hq⟩ : ∃ q, q = W.heap.size := ⟨_, rfl⟩
  rw [← hq] at KA
  try rw [← hq]
  replace hq := Lib.hid hq
  have cell1 : ∀ V2 : World, Below V.heap.size V V2 → q < V2.heap.size ∧ V2.cell? ⟨q, 19, none⟩ = some (.slice aL nL cL) ∧ V2.cell? ⟨q, 20, none⟩ = some (.slice aM nM cM) ∧ V2.cell? ⟨q, 21, none⟩ = some (.slice aT nT cT) ∧ V2.cell? ⟨q, 22, none⟩ = some (.slice aS nS cS) ∧ V2.cell? ⟨q, 23, none⟩ = some (.slice aC nC cC) :=
    fun V2 h => ⟨(KA.below h).lt, ((KA.below h).cell 19).trans h19, ((KA.below h).cell 20).trans h20, ((KA.below h).cell 21).trans h21, ((KA.below h).cell 22).trans h22, ((KA.below h).cell 23).trans h23⟩
  clear h19 h20 h21 h22 h23 KA
  obtain ⟨x1, p19, p20, p21, p22, p23⟩ := cell1 V (Below.refl _ _)
  replace cell1 := Lib.hid cell1
  have fr : ∀ V2 : World, Below V.heap.size V V2 → FrB W.heap.size W V2 := fun V2 h => FrB.of (Nat.le_refl _) (hb2.trans (h.mono hb2.size))
  replace hb2 := Lib.hid hb2
  replace hr := Lib.hid hr
  replace fr := Lib.hid fr
  replace lim := Lib.hid lim
  have hnn := Lib.hid (show gs.lights.length = nL ∧ gs.texs.length = nT ∧ gs.mats.length = nM ∧ gs.skins.length = nS ∧ gs.cages.length = nC from ⟨hnL, hnT, hnM, hnS, hnC⟩)
  clear hnL hnT hnM hnS hnC
  by_cases h0 : (60 : Int) < (nL : Int) + (nT : Int) + (nM : Int) + (nS : Int) + (nC : Int)
  · go_wp2_with fail
    go_ret
    exact GreatP.yes hb2.out
  have hs5 := Lib.hid (show nL + nT + nM + nS + nC ≤ 60 by omega)
  go_wp2_with fail
  clear p19 p20 p21 p22 p23 x1
  go_loopw [3, 4] (fun n i wr => ∃ (j N : Nat), n = .int .i64 (N : Int) ∧ i = .int .i64 (j : Int) ∧ j ≤ nT ∧ N ≤ 5000 ∧ Hid (∀ q ∈ gs.texs.take j, q.1.length ≤ 100 ∧ (q.2.drop 2).length ≤ 5000) ∧ Hid (Below V.heap.size V wr)) (fun _ i _ => nT - (intOf i).toNat)
  case atStart => exact ⟨0, 0, rfl, rfl, by omega, by omega, Lib.hid (fun q hq => (by simp at hq)), Lib.hid (Below.refl _ _)⟩
  case round =>
    obtain ⟨j, N, rfl, rfl, hj, hN, hT, hBr⟩ := hrel
    obtain ⟨x1, p19, p20, p21, p22, p23⟩ := cell1.out wr hBr.out
    by_cases hlt : j < nT
    · have hjl : j < gs.texs.length := by have := hnn.out.2.1; omega
      obtain ⟨b, off, B, m, eA, hbl, hrow, _⟩ := (hr.out.rt.frb (fr.out wr hBr.out)).at_ j hjl
      subst eA
      have k0 : (0 : Int) ≤ (j : Int) := by omega
      have k1 : (j : Int) < (nT : Int) := by omega
      obtain ⟨l, hl⟩ : ∃ l, (gs.texs[j].2.drop 2).length = l := ⟨_, rfl⟩
      obtain ⟨sb, hsb⟩ : ∃ sb : ByteArray, sb = ⟨gs.texs[j].1.toArray⟩ := ⟨_, rfl⟩
      have hss : sb.size = gs.texs[j].1.length := by rw [hsb]; show gs.texs[j].1.toArray.size = _; simp
      have c3 : wr.cell? ⟨b, off + j * 4 + 3, none⟩ = some (.slice B l m) := by rw [← hl]; exact hrow 3 _ rfl
      have c0 : wr.cell? ⟨b, off + j * 4, none⟩ = some (.string sb) := by rw [hsb]; exact hrow 0 _ rfl
      have hlb : l ≤ 140737488351232 := by have := (hr.out.pt gs.texs[j] (List.getElem_mem hjl)).2.2.1; rw [lim.out] at this; simp at hl; omega
      have hT2 := Lib.hid (fun (g1 : sb.size ≤ 100) (g2 : l ≤ 5000) => take_all (Q := fun q => q.1.length ≤ 100 ∧ (q.2.drop 2).length ≤ 5000) hjl hT.out ⟨by omega, by omega⟩)
      clear hrow hl hsb hT
      replace hss := Lib.hid hss
      obtain ⟨z, hz⟩ : ∃ z, sb.size = z := ⟨_, rfl⟩
      rw [hz] at hT2
      have hzs := Lib.hid hz
      by_cases g1 : (100 : Int) < (z : Int)
      · go_wp2_with fail
        go_ret
        exact GreatP.yes (hb2.out.trans (hBr.out.mono hb2.out.size))
      · by_cases g2 : (5000 : Int) < (N : Int) + (l : Int)
        · go_wp2_with fail
          go_ret
          exact GreatP.yes (hb2.out.trans (hBr.out.mono hb2.out.size))
        · go_wp2_with fail
          go_roundw
          case rel => exact ⟨j + 1, N + l, by go_num, by go_num, by omega, by omega, Lib.hid (hT2.out (by omega) (by omega)), hBr⟩
          case measure => simp [intOf] <;> omega
    · obtain rfl : j = nT := by omega
      rw [List.take_of_length_le (by have := hnn.out.2.1; omega)] at hT
      go_wp2_with fail
      clear x1 p19 p20 p21 p22 p23
      rename World => UM
      have hUM := hBr
      clear hBr
      go_loopw [5] (fun i wr => ∃ (j : Nat), i = .int .i64 (j : Int) ∧ j ≤ nM ∧ Hid (∀ q ∈ gs.mats.take j, q.1.length ≤ 100) ∧ Hid (Below V.heap.size V wr)) (fun i _ => nM - (intOf i).toNat)
      case atStart => exact ⟨0, rfl, by omega, Lib.hid (fun q hq => (by simp at hq)), hUM⟩
      case round =>
        obtain ⟨j, rfl, hj, hTM, hBr⟩ := hrel
        obtain ⟨x1, p19, p20, p21, p22, p23⟩ := cell1.out wr hBr.out
        by_cases hlt : j < nM
        · have hjl : j < gs.mats.length := by have := hnn.out.2.2.1; omega
          obtain ⟨b, off, eA, hK, hc⟩ := (hr.out.rm.frb (fr.out wr hBr.out)) (by simp; omega)
          subst eA
          have hbl := hK.1
          have k0 : (0 : Int) ≤ (j : Int) := by omega
          have k1 : (j : Int) < (nM : Int) := by omega
          obtain ⟨sb, hsb⟩ : ∃ sb : ByteArray, sb = ⟨gs.mats[j].1.toArray⟩ := ⟨_, rfl⟩
          have hss : sb.size = gs.mats[j].1.length := by rw [hsb]; show gs.mats[j].1.toArray.size = _; simp
          have c0 : wr.cell? ⟨b, off + j * 9, none⟩ = some (.string sb) := by
            have := (hc j (by simpa using hjl)).2 0 (by omega)
            rw [Nat.add_zero] at this
            rw [this, List.getElem_map, hsb]; rfl
          have hT2 := Lib.hid (fun (g1 : sb.size ≤ 100) => take_all (Q := fun q : Wd × List Int => q.1.length ≤ 100) hjl hTM.out (by omega))
          clear hK hc hsb hTM
          replace hss := Lib.hid hss
          obtain ⟨z, hz⟩ : ∃ z, sb.size = z := ⟨_, rfl⟩
          rw [hz] at hT2
          have hzs := Lib.hid hz
          by_cases g1 : (100 : Int) < (z : Int)
          · go_wp2_with fail
            go_ret
            exact GreatP.yes (hb2.out.trans (hBr.out.mono hb2.out.size))
          · go_wp2_with fail
            go_roundw
            case rel => exact ⟨j + 1, by go_num, by omega, Lib.hid (hT2.out (by omega)), hBr⟩
            case measure => simp [intOf] <;> omega
        · obtain rfl : j = nM := by omega
          rw [List.take_of_length_le (by have := hnn.out.2.2.1; omega)] at hTM
          go_wp2_with fail
          clear x1 p19 p20 p21 p22 p23
          rename World => US
          have hUS := hBr
          clear hBr
          go_loopw [6] (fun i wr => ∃ (j : Nat), i = .int .i64 (j : Int) ∧ j ≤ nS ∧ Hid (∀ q ∈ gs.skins.take j, q.1.length ≤ 100) ∧ Hid (Below V.heap.size V wr)) (fun i _ => nS - (intOf i).toNat)
          case atStart => exact ⟨0, rfl, by omega, Lib.hid (fun q hq => (by simp at hq)), hUS⟩
          case round =>
            obtain ⟨j, rfl, hj, hTS, hBr⟩ := hrel
            obtain ⟨x1, p19, p20, p21, p22, p23⟩ := cell1.out wr hBr.out
            by_cases hlt : j < nS
            · have hjl : j < gs.skins.length := by have := hnn.out.2.2.2.1; omega
              obtain ⟨b, off, eA, hK, hc⟩ := (hr.out.rs.frb (fr.out wr hBr.out)) (by simp; omega)
              subst eA
              have hbl := hK.1
              have k0 : (0 : Int) ≤ (j : Int) := by omega
              have k1 : (j : Int) < (nS : Int) := by omega
              obtain ⟨sb, hsb⟩ : ∃ sb : ByteArray, sb = ⟨gs.skins[j].1.toArray⟩ := ⟨_, rfl⟩
              have hss : sb.size = gs.skins[j].1.length := by rw [hsb]; show gs.skins[j].1.toArray.size = _; simp
              have c0 : wr.cell? ⟨b, off + j * 6, none⟩ = some (.string sb) := by
                have := (hc j (by simpa using hjl)).2 0 (by omega)
                rw [Nat.add_zero] at this
                rw [this, List.getElem_map, hsb]; rfl
              have hT2 := Lib.hid (fun (g1 : sb.size ≤ 100) => take_all (Q := fun q : Wd × List Int => q.1.length ≤ 100) hjl hTS.out (by omega))
              clear hK hc hsb hTS
              replace hss := Lib.hid hss
              obtain ⟨z, hz⟩ : ∃ z, sb.size = z := ⟨_, rfl⟩
              rw [hz] at hT2
              have hzs := Lib.hid hz
              by_cases g1 : (100 : Int) < (z : Int)
              · go_wp2_with fail
                go_ret
                exact GreatP.yes (hb2.out.trans (hBr.out.mono hb2.out.size))
              · go_wp2_with fail
                go_roundw
                case rel => exact ⟨j + 1, by go_num, by omega, Lib.hid (hT2.out (by omega)), hBr⟩
                case measure => simp [intOf] <;> omega
            · obtain rfl : j = nS := by omega
              rw [List.take_of_length_le (by have := hnn.out.2.2.2.1; omega)] at hTS
              go_wp2_with fail
              clear x1 p19 p20 p21 p22 p23
              rename World => UC
              have hUC := hBr
              clear hBr
              have hsmall := Lib.hid (fun (h : ∀ c ∈ gs.cages, c.verts.length ≤ 300 ∧ c.faces.length ≤ 300 ∧ c.creases.length ≤ 300 ∧ ∀ q ∈ c.faces, q.length ≤ 5000) => (SmallG.mk (by have := hnn.out; have := hs5.out; omega) hT.out hTM.out hTS.out h : SmallG gs))
              clear hT hTM hTS
              have hn60 : nC ≤ 60 := by have := hs5.out; omega
              go_loopw [3, 7] (fun n i wr => ∃ (j N : Nat), n = .int .i64 (N : Int) ∧ i = .int .i64 (j : Int) ∧ j ≤ nC ∧ N ≤ 5000 + 900 * j ∧ Hid (∀ c ∈ gs.cages.take j, c.verts.length ≤ 300 ∧ c.faces.length ≤ 300 ∧ c.creases.length ≤ 300 ∧ ∀ q ∈ c.faces, q.length ≤ 5000) ∧ Hid (Below V.heap.size V wr)) (fun _ i _ => nC - (intOf i).toNat)
              case atStart => exact ⟨0, N, rfl, rfl, by omega, by omega, Lib.hid (fun q hq => (by simp at hq)), hUC⟩
              case round =>
                clear hN
                obtain ⟨j, N, rfl, rfl, hj, hN, hT, hBr⟩ := hrel
                obtain ⟨x1, p19, p20, p21, p22, p23⟩ := cell1.out wr hBr.out
                by_cases hlt : j < nC
                · have hjl : j < gs.cages.length := by have := hnn.out.2.2.2.2; omega
                  obtain ⟨b, off, eA, hK, hc⟩ := hr.out.rc (by omega)
                  subst eA
                  obtain ⟨A1, A2, A3, c1, c2, c3, ⟨q1, q2, q3⟩, _, hF, _⟩ := hc j hjl
                  have hbl := (hK.frb (fr.out wr hBr.out)).1
                  have rng : wr.rangeAt b (off + j * 3) [.slice A1 gs.cages[j].verts.length c1, .slice A2 gs.cages[j].faces.length c2, .slice A3 gs.cages[j].creases.length c3] := rng3 ((hK.cell (fr.out wr hBr.out) _).trans q1) ((hK.cell (fr.out wr hBr.out) _).trans q2) ((hK.cell (fr.out wr hBr.out) _).trans q3)
                  obtain ⟨_, pf, _, l1, l2, l3⟩ := hr.out.pc gs.cages[j] (List.getElem_mem hjl)
                  rw [lim.out] at l1 l2 l3
                  have hT2 := Lib.hid (fun (g : gs.cages[j].verts.length ≤ 300 ∧ gs.cages[j].faces.length ≤ 300 ∧ gs.cages[j].creases.length ≤ 300 ∧ ∀ q ∈ gs.cages[j].faces, q.length ≤ 5000) => take_all (Q := fun c : CageM => c.verts.length ≤ 300 ∧ c.faces.length ≤ 300 ∧ c.creases.length ≤ 300 ∧ ∀ q ∈ c.faces, q.length ≤ 5000) hjl hT.out g)
                  replace hF := Lib.hid hF
                  replace pf := Lib.hid pf
                  clear q1 q2 q3 hc hK hT
                  have k0 : (0 : Int) ≤ (j : Int) := by omega
                  have k1 : (j : Int) < (nC : Int) := by omega
                  generalize gs.cages[j] = cg at *
                  obtain ⟨nv, hnv⟩ : ∃ n, cg.verts.length = n := ⟨_, rfl⟩
                  obtain ⟨nf, hnf⟩ : ∃ n, cg.faces.length = n := ⟨_, rfl⟩
                  obtain ⟨nc, hnc⟩ : ∃ n, cg.creases.length = n := ⟨_, rfl⟩
                  rw [hnv, hnf, hnc] at rng
                  rw [hnv] at l1
                  rw [hnf] at l2
                  rw [hnc] at l3
                  replace rng := Lib.hid rng
                  have hcgs := Lib.hid (show cg.verts.length = nv ∧ cg.faces.length = nf ∧ cg.creases.length = nc from ⟨hnv, hnf, hnc⟩)
                  clear hnv hnf hnc
                  go_upto_region 24 with (refine wpList_load_mid rfl 48 _ rfl b (off + j * 3) rfl [.slice A1 nv c1, .slice A2 nf c2, .slice A3 nc c3] _ rng.out Tryz.underlying48 rfl infoCg3 ?_)
                  have hB7 : Below wr.heap.size wr (wr.alloc (.cells #[.slice A1 nv c1, .slice A2 nf c2, .slice A3 nc c3] 48)) := bel_alloc (Below.refl _ _) _
                  have K7 : Blk (wr.alloc (.cells #[.slice A1 nv c1, .slice A2 nf c2, .slice A3 nc c3] 48)) wr.heap.size 48 #[.slice A1 nv c1, .slice A2 nf c2, .slice A3 nc c3] := Blk.new _ _ _ _ rfl
                  generalize wr.alloc (.cells #[.slice A1 nv c1, .slice A2 nf c2, .slice A3 nc c3] 48) = U7 at *
                  obtain ⟨p, hp⟩ : ∃ p, p = wr.heap.size := ⟨_, rfl⟩
                  rw [← hp] at K7
                  try rw [← hp]
                  clear hp x1 p19 p20 p21 p22 p23 hbl k0 k1 rng
                  have hB8 := Lib.hid (hBr.out.trans (hB7.mono hBr.out.size))
                  have hpl := K7.lt
                  have d0 : U7.cell? ⟨p, 0, none⟩ = some (.slice A1 nv c1) := K7.cell 0
                  have d1 : U7.cell? ⟨p, 1, none⟩ = some (.slice A2 nf c2) := K7.cell 1
                  have d2 : U7.cell? ⟨p, 2, none⟩ = some (.slice A3 nc c3) := K7.cell 2
                  replace K7 := Lib.hid K7
                  clear hB7 hBr
                  by_cases g1 : (300 : Int) < (nv : Int)
                  · go_wp2_with fail
                    go_ret
                    exact GreatP.yes (hb2.out.trans (hB8.out.mono hb2.out.size))
                  by_cases g2 : (300 : Int) < (nf : Int)
                  · go_wp2_with fail
                    go_ret
                    exact GreatP.yes (hb2.out.trans (hB8.out.mono hb2.out.size))
                  by_cases g3 : (300 : Int) < (nc : Int)
                  · go_wp2_with fail
                    go_ret
                    exact GreatP.yes (hb2.out.trans (hB8.out.mono hb2.out.size))
                  go_wp2_with fail
                  clear d0 d1 d2 hpl
                  have hNb : N + nv + nc + nf ≤ 5000 + 900 * (j + 1) := by omega
                  rename World => UF
                  go_loopw [3, 9] (fun n i wr => ∃ (t M : Nat), n = .int .i64 (M : Int) ∧ i = .int .i64 (t : Int) ∧ t ≤ nf ∧ M ≤ 5000 + 900 * (j + 1) ∧ Hid (∀ q ∈ cg.faces.take t, q.length ≤ 5000) ∧ Hid (Below UF.heap.size UF wr)) (fun _ i _ => nf - (intOf i).toNat)
                  case atStart => exact ⟨0, N + nv + nc + nf, by go_num, rfl, by omega, hNb, Lib.hid (fun q hq => (by simp at hq)), Lib.hid (Below.refl _ _)⟩
                  case round =>
                    obtain ⟨t, M, rfl, rfl, ht, hM, hTF, hBf⟩ := hrel
                    have K9 := K7.out.below hBf.out
                    have hpl := K9.lt
                    have d1 : wr.cell? ⟨p, 1, none⟩ = some (.slice A2 nf c2) := K9.cell 1
                    have hB9 := Lib.hid (hB8.out.trans (hBf.out.mono hB8.out.size))
                    by_cases htl : t < nf
                    · have htf : t < cg.faces.length := by have := hcgs.out.2.1; omega
                      obtain ⟨b3, o3, B3, m3, eA, hb3, q3, _⟩ := (hF.out.frb (fr.out wr hB9.out)).at_ t htf
                      subst eA
                      have hl := (pf.out cg.faces[t] (List.getElem_mem htf)).1
                      rw [lim.out] at hl
                      have hT3 := Lib.hid (fun (g : cg.faces[t].length ≤ 5000) => take_all (Q := fun q : List Int => q.length ≤ 5000) htf hTF.out g)
                      generalize cg.faces[t].length = l at *
                      have k0 : (0 : Int) ≤ (t : Int) := by omega
                      have k1 : (t : Int) < (nf : Int) := by omega
                      clear K9 hTF
                      by_cases g4 : (5000 : Int) < (M : Int) + (l : Int)
                      · go_wp2_with fail
                        go_ret
                        exact GreatP.yes (hb2.out.trans (hB9.out.mono hb2.out.size))
                      · go_wp2_with fail
                        go_roundw
                        case rel => exact ⟨t + 1, M + l, by go_num, by go_num, by omega, by omega, Lib.hid (hT3.out (by omega)), hBf⟩
                        case measure => simp [intOf] <;> omega
                    · obtain rfl : t = nf := by omega
                      rw [List.take_of_length_le (by have := hcgs.out.2.1; omega)] at hTF
                      have hT4 := Lib.hid (hT2.out ⟨by have := hcgs.out.1; omega, by have := hcgs.out.2.1; omega, by have := hcgs.out.2.2; omega, hTF.out⟩)
                      clear K9 hTF
                      go_wp2_with fail
                      go_roundw
                      case rel => exact ⟨j + 1, M, rfl, by go_num, by omega, hM, hT4, hB9⟩
                      case measure => simp [intOf] <;> omega
                · obtain rfl : j = nC := by omega
                  rw [List.take_of_length_le (by have := hnn.out.2.2.2.2; omega)] at hT
                  by_cases hfin : (5000 : Int) < (N : Int)
                  · go_wp2_with fail
                    go_ret
                    exact GreatP.yes (hb2.out.trans (hBr.out.mono hb2.out.size))
                  · go_wp2_with fail
                    go_ret
                    exact GreatP.no (hb2.out.trans (hBr.out.mono hb2.out.size)) (hsmall.out hT.out)
end Go.Proofs.YtdkgbdecmgligaaGreatDoor

/- A scene that is looked at, as Show takes it; the bytes and lines of a scene's text (math). -/
namespace Go.Proofs.YtdkgbdecmgligaaGreatDoor
open Go.RowKit
set_option linter.unusedVariables false
set_option linter.unusedSimpArgs false
set_option linter.unnecessarySimpa false
theorem raw_wf {W : World} {gs : GS} {aL aM aT aS aC : Option Addr} (h : RawG W gs aL aM aT aS aC) (hs : SmallG gs) : WfG gs := by
  have n5 := hs.n5
  refine ⟨h.lc, h.ic, h.ls, h.is, by omega, h.pl, by omega, fun q hq => ?_, by omega, fun q hq => ?_, by omega, fun q hq => ?_, by omega⟩
  · have := hs.mt q hq
    obtain ⟨_, h2, h3⟩ := h.pm q hq
    exact ⟨by omega, h2, h3⟩
  · have := hs.tx q hq
    obtain ⟨_, h2, h3, h4⟩ := h.pt q hq
    have h5 : (q.2.drop 2).length = q.2.length - 2 := by simp
    exact ⟨by omega, h2, by omega, h4⟩
  · have := hs.sk q hq
    obtain ⟨_, h2, h3⟩ := h.ps q hq
    exact ⟨by omega, h2, h3⟩
theorem raw_sb {W : World} {gs : GS} {aL aM aT aS aC : Option Addr} (h : RawG W gs aL aM aT aS aC) (hs : SmallG gs) : SB W.heap.size W gs aL aM aT aS aC := by
  refine ⟨h.rl, h.rm, h.rt, h.rs, fun h0 => ?_⟩
  obtain ⟨b, off, e, k, hc⟩ := h.rc h0
  refine ⟨b, off, e, k, fun i hi => ?_⟩
  obtain ⟨A1, A2, A3, c1, c2, c3, q, r1, r2, r3⟩ := hc i hi
  obtain ⟨p1, p2, p3, _, _, _⟩ := h.pc gs.cages[i] (List.getElem_mem hi)
  obtain ⟨s1, s2, s3, s4⟩ := hs.cg gs.cages[i] (List.getElem_mem hi)
  exact ⟨A1, A2, A3, c1, c2, c3, q, ⟨p1, fun z hz => ⟨by have := s4 z hz; omega, (p2 z hz).2⟩, p3, by omega, by omega, by omega, r1, r2, r3⟩⟩
/-- Show of a scene that is handed in. -/
theorem show_raw {cL cM cT cS cC : Nat} {aL aM aT aS aC : Option Addr} {W V : World} (gs : GS) (h : RawG W gs aL aM aT aS aC) (hs : SmallG gs) (hV : Below W.heap.size W V) (ht : Tabs7 V) (cs : Array Value) (hsz : cs.size = 24) (hc : ∀ i, i < 16 → cs[i]? = some (.int .i64 (gs.cam.getD i 0))) (hk : ∀ i, i < 3 → cs[i + 16]? = some (.int .i64 (gs.sky.getD i 0)))
    (h19 : cs[19]? = some (.slice aL gs.lights.length cL)) (h20 : cs[20]? = some (.slice aM gs.mats.length cM)) (h21 : cs[21]? = some (.slice aT gs.texs.length cT)) (h22 : cs[22]? = some (.slice aS gs.skins.length cS)) (h23 : cs[23]? = some (.slice aC gs.cages.length cC)) :
    Calls Tryz.prog 9 #[.agg cs] V fun e w' => Below V.heap.size V w' ∧ ((okG gs ∧ e = .returned (.tuple #[.string ⟨(textG gs).toArray⟩, .int .i64 0])) ∨ (¬ okG gs ∧ e = .returned (.tuple #[.string ⟨#[]⟩, .int .i64 11]))) := by
  have hw := raw_wf h hs
  obtain ⟨a0, a1, a2, a3, a4, a5, a6, a7, a8, a9, a10, a11, a12, a13, a14, a15, ec⟩ : ∃ a0 a1 a2 a3 a4 a5 a6 a7 a8 a9 a10 a11 a12 a13 a14 a15, gs.cam = [a0, a1, a2, a3, a4, a5, a6, a7, a8, a9, a10, a11, a12, a13, a14, a15] := by
    match gs.cam, h.lc with
    | [a0, a1, a2, a3, a4, a5, a6, a7, a8, a9, a10, a11, a12, a13, a14, a15], _ => exact ⟨a0, a1, a2, a3, a4, a5, a6, a7, a8, a9, a10, a11, a12, a13, a14, a15, rfl⟩
  obtain ⟨s0, s1, s2, es⟩ : ∃ s0 s1 s2, gs.sky = [s0, s1, s2] := by
    match gs.sky, h.ls with
    | [s0, s1, s2], _ => exact ⟨s0, s1, s2, rfl⟩
  have hsb := ((raw_sb h hs).frb (FrB.of (Nat.le_refl _) hV)).up hV.size
  refine show_w (cL := cL) (cM := cM) (cT := cT) (cS := cS) (cC := cC) gs hw hsb ht.1 (itoa_ok ht) a0 a1 a2 a3 a4 a5 a6 a7 a8 a9 a10 a11 a12 a13 a14 a15 s0 s1 s2 ec es cs ?_
  apply Array.ext (by rw [hsz]; rfl)
  intro i h1 h2
  have h1' : i < 24 := by omega
  have key : ∀ v, cs[i]? = some v → cs[i] = v := fun v hv => by
    rw [Array.getElem?_eq_getElem h1] at hv
    exact Option.some.inj hv
  rcases (by omega : i < 16 ∨ i = 16 ∨ i = 17 ∨ i = 18 ∨ i = 19 ∨ i = 20 ∨ i = 21 ∨ i = 22 ∨ i = 23) with q | rfl | rfl | rfl | rfl | rfl | rfl | rfl | rfl
  · have := key _ (hc i q)
    rw [this, ec]
    rcases (by omega : i = 0 ∨ i = 1 ∨ i = 2 ∨ i = 3 ∨ i = 4 ∨ i = 5 ∨ i = 6 ∨ i = 7 ∨ i = 8 ∨ i = 9 ∨ i = 10 ∨ i = 11 ∨ i = 12 ∨ i = 13 ∨ i = 14 ∨ i = 15) with rfl | rfl | rfl | rfl | rfl | rfl | rfl | rfl | rfl | rfl | rfl | rfl | rfl | rfl | rfl | rfl <;> rfl
  · rw [key _ (hk 0 (by omega)), es]; rfl
  · rw [key _ (hk 1 (by omega)), es]; rfl
  · rw [key _ (hk 2 (by omega)), es]; rfl
  · exact key _ h19
  · exact key _ h20
  · exact key _ h21
  · exact key _ h22
  · exact key _ h23
/-! the bytes of a text -/
def blk (c : UInt8) : Bool := c == 32 || c == 10
/-- No remark, no blanks beside one another, all to be seen; p: is what stands ahead a blank, or the start? -/
def okB : Bool → List UInt8 → Bool
  | _, [] => true
  | p, c :: r => c != 35 && !(blk c && p) && (c == 10 || (32 ≤ c.toNat && c.toNat ≤ 126)) && okB (blk c) r
def stB : Bool → List UInt8 → Bool
  | p, [] => p
  | _, c :: r => stB (blk c) r
theorem okB_app : ∀ (a b : List UInt8) (p : Bool), okB p (a ++ b) = (okB p a && okB (stB p a) b)
  | [], b, p => rfl
  | c :: a, b, p => by simp only [List.cons_append, okB, stB, okB_app a b, Bool.and_assoc]
theorem stB_app : ∀ (a b : List UInt8) (p : Bool), stB p (a ++ b) = stB (stB p a) b
  | [], b, p => rfl
  | c :: a, b, p => by simp only [List.cons_append, stB, stB_app a b]
theorem word_ok : ∀ (w : List UInt8), w ≠ [] → (∀ c ∈ w, 33 ≤ c.toNat ∧ c.toNat ≤ 126 ∧ c ≠ 35) → ∀ p, okB p w = true ∧ stB p w = false
  | [], h, _, _ => absurd rfl h
  | c :: r, _, h, p => by
    obtain ⟨h1, h2, h3⟩ := h c (by simp)
    have e1 : blk c = false := by
      unfold blk
      have : c ≠ 32 := fun e => by subst e; revert h1; decide
      have : c ≠ 10 := fun e => by subst e; revert h1; decide
      simp [*]
    have e2 : (c != 35) = true := by simp [h3]
    have e3 : decide (32 ≤ c.toNat) = true := by simp; omega
    have e4 : decide (c.toNat ≤ 126) = true := by simp; omega
    simp only [okB, stB, e1, e2, e3, e4, Bool.false_and, Bool.not_false, Bool.and_true, Bool.true_and, Bool.or_true]
    cases r with
    | nil => exact ⟨rfl, rfl⟩
    | cons d r => exact word_ok (d :: r) (by simp) (fun x hx => h x (by simp [hx])) false
theorem jn_consB (w : Wd) (ws : List Wd) : jn (w :: ws) = 32 :: (w ++ jn ws) := by unfold jn; simp
theorem jn_okB : ∀ (ws : List Wd), (∀ w ∈ ws, okW w) → okB false (jn ws) = true ∧ stB false (jn ws) = false
  | [], _ => by unfold jn; exact ⟨rfl, rfl⟩
  | w :: ws, h => by
    have hw := h w (by simp)
    obtain ⟨h1, h2⟩ := word_ok w hw.1 hw.2 true
    obtain ⟨h3, h4⟩ := jn_okB ws (fun x hx => h x (by simp [hx]))
    rw [jn_consB]
    have e : blk 32 = true := by decide
    simp only [okB, stB, e, okB_app, stB_app, h1, h2, h3, h4]
    decide
theorem line_okB {ws : List Wd} (h : okL ws) : okB true (lineT ws ++ [10]) = true ∧ stB true (lineT ws ++ [10]) = true := by
  cases ws with
  | nil => exact absurd rfl h.1
  | cons k t =>
    have hk := h.2 k (by simp)
    obtain ⟨h1, h2⟩ := word_ok k hk.1 hk.2 true
    obtain ⟨h3, h4⟩ := jn_okB t (fun x hx => h.2 x (by simp [hx]))
    show okB true ((k ++ jn t) ++ [10]) = true ∧ stB true ((k ++ jn t) ++ [10]) = true
    simp only [okB_app, stB_app, h1, h2, h3, h4]
    decide
theorem text_okB : ∀ (L : List (List Wd)), (∀ ws ∈ L, okL ws) → okB true (txtOf (L.map lineT)) = true ∧ stB true (txtOf (L.map lineT)) = true
  | [], _ => ⟨rfl, rfl⟩
  | ws :: L, h => by
    obtain ⟨h1, h2⟩ := line_okB (h ws (by simp))
    obtain ⟨h3, h4⟩ := text_okB L (fun x hx => h x (by simp [hx]))
    have e : txtOf ((ws :: L).map lineT) = (lineT ws ++ [10]) ++ txtOf (L.map lineT) := by unfold txtOf; simp
    rw [e]
    generalize lineT ws ++ [10] = ln at *
    rw [okB_app, stB_app, h1, h2, h3, h4]
    exact ⟨rfl, rfl⟩
theorem okG_bytes {gs : GS} (h : okG gs) : okB true (textG gs) = true ∧ stB true (textG gs) = true := by
  obtain ⟨_, _, sc, hT, hg⟩ := h
  obtain ⟨hgd, hcn⟩ := sceneT_good hT
  rw [hg, textG_R]
  exact text_okB _ (okL_all hgd _ _)
/-! how many lines -/
def nls (l : List UInt8) : Nat := (l.filter (· == 10)).length
theorem nls_app (a b : List UInt8) : nls (a ++ b) = nls a + nls b := by unfold nls; simp
theorem nls_word {w : List UInt8} (h : ∀ c ∈ w, 33 ≤ c.toNat ∧ c.toNat ≤ 126 ∧ c ≠ 35) : nls w = 0 := by
  unfold nls
  rw [List.length_eq_zero_iff, List.filter_eq_nil_iff]
  intro c hc
  obtain ⟨h1, _, _⟩ := h c hc
  intro e
  have : c = 10 := by simpa using e
  subst this
  revert h1; decide
theorem nls_jn : ∀ (ws : List Wd), (∀ w ∈ ws, okW w) → nls (jn ws) = 0
  | [], _ => by unfold jn; rfl
  | w :: ws, h => by
    rw [jn_consB]
    have e : nls (32 :: (w ++ jn ws)) = nls (w ++ jn ws) := by unfold nls; simp
    rw [e, nls_app, nls_word (h w (by simp)).2, nls_jn ws (fun x hx => h x (by simp [hx]))]
theorem nls_text : ∀ (L : List (List Wd)), (∀ ws ∈ L, okL ws) → nls (txtOf (L.map lineT)) = L.length
  | [], _ => rfl
  | ws :: L, h => by
    have e : txtOf ((ws :: L).map lineT) = (lineT ws ++ [10]) ++ txtOf (L.map lineT) := by unfold txtOf; simp
    rw [e, nls_app, nls_app, nls_text L (fun x hx => h x (by simp [hx]))]
    have h0 := h ws (by simp)
    cases ws with
    | nil => exact absurd rfl h0.1
    | cons k t =>
      have e1 : nls (lineT (k :: t)) = 0 := by
        show nls (k ++ jn t) = 0
        rw [nls_app, nls_word (h0.2 k (by simp)).2, nls_jn t (fun x hx => h0.2 x (by simp [hx]))]
      rw [e1]
      have : nls [10] = 1 := rfl
      rw [this, List.length_cons]; omega
/-- How many lines belong to cages. -/
def cageN (cs : List CageM) : Nat := (cs.map fun c => c.verts.length + c.faces.length + c.creases.length).sum
theorem cageN_take {cs : List CageM} {j : Nat} (h : j < cs.length) : cageN (cs.take (j + 1)) = cageN (cs.take j) + (cs[j].verts.length + cs[j].faces.length + cs[j].creases.length) := by
  unfold cageN
  rw [List.take_succ_eq_append_getElem h, List.map_append, List.sum_append]
  simp only [List.map_cons, List.map_nil, List.sum_cons, List.sum_nil]; omega
theorem flat_n {mats texs : List (Wd × List Int)} : ∀ (sk : List SkinM) (cs : List CageM), sk.length = cs.length → ((sk.zip cs).flatMap fun p => skinL mats texs p.1 :: cageL p.2).length = sk.length + cageN cs
  | [], [], _ => rfl
  | [], _ :: _, h => by simp at h
  | _ :: _, [], h => by simp at h
  | k :: sk, c :: cs, h => by
    have h' : sk.length = cs.length := by simpa using h
    have ih := flat_n (mats := mats) (texs := texs) sk cs h'
    rw [List.zip_cons_cons, List.flatMap_cons, List.length_append, ih]
    have e1 : (skinL mats texs k :: cageL c).length = 1 + (c.verts.length + c.faces.length + c.creases.length) := by
      unfold cageL; simp; omega
    have e2 : cageN (c :: cs) = (c.verts.length + c.faces.length + c.creases.length) + cageN cs := by unfold cageN; simp
    simp only [e1, e2, List.length_cons]; omega
theorem okG_lines {gs : GS} (h : okG gs) : nls (textG gs) = 2 + gs.lights.length + gs.texs.length + gs.mats.length + gs.skins.length + cageN gs.cages := by
  obtain ⟨_, _, sc, hT, hg⟩ := h
  obtain ⟨hgd, hcn⟩ := sceneT_good hT
  rw [hg, textG_R]
  show nls (txtOf _) = _
  rw [nls_text _ (okL_all hgd _ _)]
  unfold allL
  have := flat_n (mats := sc.mats) (texs := sc.texs) sc.skins sc.cages hgd.ns.1
  simp only [List.length_cons, List.length_append, List.length_map, this]
  unfold gsR gsOf
  simp; omega
end Go.Proofs.YtdkgbdecmgligaaGreatDoor

/- A scene that is handed in, as one fact; a text's bytes by their places. -/
namespace Go.Proofs.YtdkgbdecmgligaaGreatDoor
open Go.RowKit
set_option linter.unusedVariables false
set_option linter.unusedSimpArgs false
set_option linter.unnecessarySimpa false
theorem RawG.below {W W1 : World} {gs : GS} {aL aM aT aS aC : Option Addr} (h : RawG W gs aL aM aT aS aC) (hB : Below W.heap.size W W1) : RawG W1 gs aL aM aT aS aC := by
  have hf := FrB.of (Nat.le_refl _) hB
  refine ⟨h.lc, h.ic, h.ls, h.is, h.nl, h.pl, h.nm, h.pm, h.nt, h.pt, h.ns, h.ps, h.nc, h.pc, (h.rl.frb hf).up hB.size, (h.rm.frb hf).up hB.size, (h.rt.frb hf).up hB.size, (h.rs.frb hf).up hB.size, fun h0 => ?_⟩
  obtain ⟨b, off, e, k, hc⟩ := h.rc h0
  refine ⟨b, off, e, (k.frb hf).up hB.size, fun i hi => ?_⟩
  obtain ⟨A1, A2, A3, c1, c2, c3, ⟨q1, q2, q3⟩, r1, r2, r3⟩ := hc i hi
  exact ⟨A1, A2, A3, c1, c2, c3, ⟨(k.cell hf _).trans q1, (k.cell hf _).trans q2, (k.cell hf _).trans q3⟩, (r1.frb hf).up hB.size, (r2.frb hf).up hB.size, (r3.frb hf).up hB.size⟩
/-- A scene's cells, and what they lead to. -/
def SceneA (W : World) (gs : GS) (cs : Array Value) : Prop := ∃ (aL aM aT aS aC : Option Addr) (cL cM cT cS cC : Nat), RawG W gs aL aM aT aS aC ∧ cs.size = 24 ∧ (∀ i, i < 16 → cs[i]? = some (.int .i64 (gs.cam.getD i 0))) ∧ (∀ i, i < 3 → cs[i + 16]? = some (.int .i64 (gs.sky.getD i 0))) ∧ cs[19]? = some (.slice aL gs.lights.length cL) ∧ cs[20]? = some (.slice aM gs.mats.length cM) ∧ cs[21]? = some (.slice aT gs.texs.length cT) ∧ cs[22]? = some (.slice aS gs.skins.length cS) ∧ cs[23]? = some (.slice aC gs.cages.length cC)
theorem SceneA.below {W W1 : World} {gs : GS} {cs : Array Value} (h : SceneA W gs cs) (hB : Below W.heap.size W W1) : SceneA W1 gs cs := by
  obtain ⟨aL, aM, aT, aS, aC, cL, cM, cT, cS, cC, h1, h2⟩ := h
  exact ⟨aL, aM, aT, aS, aC, cL, cM, cT, cS, cC, h1.below hB, h2⟩
theorem SceneA.size {W : World} {gs : GS} {cs : Array Value} (h : SceneA W gs cs) : cs.size = 24 := by
  obtain ⟨aL, aM, aT, aS, aC, cL, cM, cT, cS, cC, h1, h2, _⟩ := h
  exact h2
theorem great_A {W : World} {gs : GS} {cs : Array Value} (h : SceneA W gs cs) : Calls Tryz.prog 8 #[.agg cs] W fun e w' => GreatP gs W e w' := by
  obtain ⟨aL, aM, aT, aS, aC, cL, cM, cT, cS, cC, h1, h2, h3, h4, h5, h6, h7, h8, h9⟩ := h
  exact great_w gs h1 cs h2 h5 h6 h7 h8 h9
theorem show_A {W : World} {gs : GS} {cs : Array Value} (h : SceneA W gs cs) (hs : SmallG gs) (ht : Tabs7 W) : Calls Tryz.prog 9 #[.agg cs] W fun e w' => Below W.heap.size W w' ∧ ((okG gs ∧ e = .returned (.tuple #[.string ⟨(textG gs).toArray⟩, .int .i64 0])) ∨ (¬ okG gs ∧ e = .returned (.tuple #[.string ⟨#[]⟩, .int .i64 11]))) := by
  obtain ⟨aL, aM, aT, aS, aC, cL, cM, cT, cS, cC, h1, h2, h3, h4, h5, h6, h7, h8, h9⟩ := h
  exact show_raw gs h1 hs (Below.refl _ _) ht cs h2 h3 h4 h5 h6 h7 h8 h9
/-! bytes by their places -/
theorem bt_list (l : List UInt8) (k : Nat) (h : k < l.length) : bt ⟨l.toArray⟩ k = l[k].toNat := by
  have hk : k < (⟨l.toArray⟩ : ByteArray).size := by show k < l.toArray.size; simpa using h
  unfold bt
  rw [dif_pos hk]
  show (l.toArray[k]'(by simpa using h)).toNat = _
  simp
theorem okB_at : ∀ (l : List UInt8) (p : Bool), okB p l = true → ∀ k (h : k < l.length), l[k] ≠ 35 ∧ (blk l[k] = true → (if h0 : 0 < k then blk (l[k - 1]'(by omega)) else p) = false) ∧ (l[k] = 10 ∨ (32 ≤ l[k].toNat ∧ l[k].toNat ≤ 126))
  | [], _, _, k, h => by simp at h
  | c :: r, p, hp, k, h => by
    simp only [okB, Bool.and_eq_true] at hp
    obtain ⟨⟨⟨h1, h2⟩, h3⟩, h4⟩ := hp
    cases k with
    | zero =>
      refine ⟨by simpa using h1, fun hb => ?_, ?_⟩
      · simp only [List.getElem_cons_zero] at hb
        rw [hb] at h2
        simpa using h2
      · simpa using h3
    | succ k =>
      have ih := okB_at r (blk c) h4 k (by simpa using h)
      simp only [List.getElem_cons_succ]
      refine ⟨ih.1, fun hb => ?_, ih.2.2⟩
      have := ih.2.1 hb
      rw [dif_pos (by omega)]
      cases k with
      | zero => simpa using this
      | succ k => rw [dif_pos (by omega)] at this; simpa using this
theorem end_text : ∀ (L : List (List UInt8)), L ≠ [] → ∃ a, txtOf L = a ++ [10]
  | [], h => absurd rfl h
  | [x], _ => ⟨x, by unfold txtOf; simp⟩
  | x :: y :: L, _ => by
    obtain ⟨a, ha⟩ := end_text (y :: L) (by simp)
    have e : txtOf (x :: y :: L) = (x ++ [10]) ++ txtOf (y :: L) := by unfold txtOf; simp
    exact ⟨x ++ [10] ++ a, by rw [e, ha]; simp⟩
/-- What a text that is shown is, byte by byte. -/
structure TextP (T : ByteArray) : Prop where
  pos : 0 < T.size
  no35 : ∀ k, k < T.size → bt T k ≠ 35
  blank : ∀ k, k < T.size → bt T k = 32 ∨ bt T k = 10 → 0 < k ∧ bt T (k - 1) ≠ 32 ∧ bt T (k - 1) ≠ 10
  seen : ∀ k, k < T.size → bt T k = 10 ∨ (32 ≤ bt T k ∧ bt T k ≤ 126)
  last : bt T (T.size - 1) = 10
theorem okG_text {gs : GS} (h : okG gs) : TextP ⟨(textG gs).toArray⟩ := by
  obtain ⟨hB, _⟩ := okG_bytes h
  have hsz : (⟨(textG gs).toArray⟩ : ByteArray).size = (textG gs).length := by show (textG gs).toArray.size = _; simp
  have hpos : 0 < (textG gs).length := List.length_pos_iff.2 (textG_ne gs)
  have at_ := okB_at (textG gs) true hB
  have tn : ∀ (c : UInt8) (n : Nat), n < 256 → (c = UInt8.ofNat n ↔ c.toNat = n) := fun c n hn => by
    constructor
    · intro e; subst e; simp; omega
    · intro e; rw [← e]; simp
  obtain ⟨_, _, sc, hT, hg⟩ := h
  obtain ⟨a, ha⟩ : ∃ a, textG gs = a ++ [10] := by
    rw [hg, textG_R]
    exact end_text _ (by unfold allL; simp)
  refine ⟨by rw [hsz]; exact hpos, fun k hk => ?_, fun k hk hb => ?_, fun k hk => ?_, ?_⟩
  · rw [hsz] at hk
    rw [bt_list _ _ hk]
    exact fun e => (at_ k hk).1 ((tn _ 35 (by omega)).2 e)
  · rw [hsz] at hk
    rw [bt_list _ _ hk] at hb
    have hbk : blk (textG gs)[k] = true := by
      unfold blk
      rcases hb with e | e
      · rw [(tn _ 32 (by omega)).2 e]; decide
      · rw [(tn _ 10 (by omega)).2 e]; decide
    have := (at_ k hk).2.1 hbk
    by_cases h0 : 0 < k
    · rw [dif_pos h0] at this
      rw [bt_list _ _ (by omega)]
      unfold blk at this
      simp only [Bool.or_eq_false_iff, beq_eq_false_iff_ne] at this
      exact ⟨h0, fun e => this.1 ((tn _ 32 (by omega)).2 e), fun e => this.2 ((tn _ 10 (by omega)).2 e)⟩
    · rw [dif_neg h0] at this; cases this
  · rw [hsz] at hk
    rw [bt_list _ _ hk]
    rcases (at_ k hk).2.2 with e | e
    · exact .inl ((tn _ 10 (by omega)).1 e)
    · exact .inr e
  · rw [hsz, bt_list _ _ (by omega)]
    have : (textG gs)[(textG gs).length - 1]'(by omega) = 10 := by
      simp only [ha]
      simp
    rw [this]; rfl
end Go.Proofs.YtdkgbdecmgligaaGreatDoor
