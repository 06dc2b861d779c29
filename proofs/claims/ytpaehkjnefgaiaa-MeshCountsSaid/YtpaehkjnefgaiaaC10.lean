/- Package topo: face, fan; rows of numbers and of faces that are read. A patch's cells; rows of textures and of keys. Arguments opened down to their single cells, with what each slice and string weighs. No program is imported. The last step of a law's row: it answered true, and all that was there is as it was. No program is imported. Faces that are handed in, opened. Package relief: texels, shapes, cells, and its four calls. -/
import Derived.Deep.MidRow
import Derived.SizedLaws
import Derived.ProofKit
import Derived.OpenShut
import Derived.Carry
import Derived.Test.YtpaehkjnefgaiaaC0
import Derived.Test.YtpaehkjnefgaiaaC1
import Derived.Test.YtpaehkjnefgaiaaC6
import Derived.Test.YtpaehkjnefgaiaaC8
import Derived.Test.YtpaehkjnefgaiaaC9
namespace Go.Proofs.Ytpaehkjnefgaiaa
open Go.RowKit
set_option linter.unusedVariables false
set_option linter.unusedSimpArgs false
set_option linter.unnecessarySimpa false
set_option maxRecDepth 100000

/-- A row of numbers that lies somewhere. -/
def IL (W : World) (A : Option Addr) (ns : List Int) : Prop := 0 < ns.length → ∃ b off, A = some ⟨b, off, none⟩ ∧ b < W.heap.size ∧ ∀ i (h : i < ns.length), W.cell? ⟨b, off + i, none⟩ = some (.int .i64 ns[i])
theorem IL.below {W W' : World} {A : Option Addr} {ns : List Int} (h : IL W A ns) (hb : Below W.heap.size W W') : IL W' A ns := fun hn => by
  obtain ⟨b, off, e, hl, hc⟩ := h hn
  exact ⟨b, off, e, Nat.lt_of_lt_of_le hl hb.size, fun i hi => (hb.cell (p := ⟨b, _, none⟩) hl).trans (hc i hi)⟩
/-- A row of rows of numbers. -/
def FL (W : World) (A : Option Addr) (fs : List (List Int)) : Prop := 0 < fs.length → ∃ b off, A = some ⟨b, off, none⟩ ∧ b < W.heap.size ∧ ∀ i (h : i < fs.length), ∃ B m, W.cell? ⟨b, off + i, none⟩ = some (.slice B fs[i].length m) ∧ IL W B fs[i]
theorem FL.below {W W' : World} {A : Option Addr} {fs : List (List Int)} (h : FL W A fs) (hb : Below W.heap.size W W') : FL W' A fs := fun hn => by
  obtain ⟨b, off, e, hl, hc⟩ := h hn
  refine ⟨b, off, e, Nat.lt_of_lt_of_le hl hb.size, fun i hi => ?_⟩
  obtain ⟨B, m, h1, h2⟩ := hc i hi
  exact ⟨B, m, (hb.cell (p := ⟨b, _, none⟩) hl).trans h1, h2.below hb⟩
theorem FL.at_ {W : World} {A : Option Addr} {fs : List (List Int)} (h : FL W A fs) (i : Nat) (hi : i < fs.length) : ∃ b off B m, A = some ⟨b, off, none⟩ ∧ b < W.heap.size ∧ W.cell? ⟨b, off + i, none⟩ = some (.slice B fs[i].length m) ∧ IL W B fs[i] := by
  obtain ⟨b, off, e, hl, hc⟩ := h (by omega)
  obtain ⟨B, m, h1, h2⟩ := hc i hi
  exact ⟨b, off, B, m, e, hl, h1, h2⟩
theorem IL.at_ {W : World} {A : Option Addr} {ns : List Int} (h : IL W A ns) (i : Nat) (hi : i < ns.length) : ∃ b off, A = some ⟨b, off, none⟩ ∧ b < W.heap.size ∧ W.cell? ⟨b, off + i, none⟩ = some (.int .i64 ns[i]) := by
  obtain ⟨b, off, e, hl, hc⟩ := h (by omega)
  exact ⟨b, off, e, hl, hc i hi⟩
theorem LaM.below {W W' : World} {B : Nat} {P : List Way} (h : LaM W B P) (hb : Below W.heap.size W W') : LaM W' B P := by
  have hlt := h.lt
  obtain ⟨D, ⟨es, cl, h1, h2⟩, h3⟩ := h
  exact ⟨D, ⟨es, cl, (hb.block B hlt).trans h1, h2⟩, h3⟩
end Go.Proofs.Ytpaehkjnefgaiaa
namespace Go.Proofs.Ytpaehkjnefgaiaa
open Go.RowKit
set_option linter.unusedVariables false
set_option linter.unusedSimpArgs false
set_option linter.unnecessarySimpa false
set_option maxRecDepth 100000
/-- n cells, told by their numbers. -/
def cellsF (n : Nat) (f : Nat → Value) : Array Value := ((List.range n).map f).toArray
theorem cellsF_size (n : Nat) (f : Nat → Value) : (cellsF n f).size = n := by simp [cellsF]
theorem cellsF_at {n j : Nat} (f : Nat → Value) (h : j < n) : (cellsF n f)[j]? = some (f j) := by simp [cellsF, h]
theorem cellsF_ext {n : Nat} {f g : Nat → Value} (h : ∀ v, v < n → f v = g v) : cellsF n f = cellsF n g := by
  unfold cellsF
  congr 1
  exact List.map_congr_left fun v hv => h v (List.mem_range.1 hv)
theorem cellsF_one {n : Nat} {f : Nat → Value} (h : ∀ v, v < n → (f v).oneCell' = true) : (cellsF n f).all (·.oneCell') = true := by
  unfold cellsF
  simp only [List.all_toArray, List.all_map, List.all_eq_true]
  intro j hj
  exact h j (List.mem_range.1 hj)
def Pch.c (P : Pch) (j : Nat) : Value := if j < 48 then qC P.pt (j / 3) (j % 3) else if j < 52 then .int .i64 (P.co (j - 48)) else if j < 64 then qC P.nm ((j - 52) / 3) ((j - 52) % 3) else .int .i64 P.sk
def Pch.row (P : Pch) : Array Value := cellsF 65 P.c
theorem Pch.row_size (P : Pch) : P.row.size = 65 := cellsF_size _ _
theorem Pch.one (P : Pch) (j : Nat) : (P.c j).oneCell' = true := by unfold Pch.c; split; rfl; split; rfl; split <;> rfl
theorem Pch.row_one (P : Pch) : P.row.all (·.oneCell') = true := cellsF_one fun j _ => P.one j
theorem Pch.at_ (P : Pch) {j : Nat} (h : j < 65) : P.row[j]? = some (P.c j) := cellsF_at _ h
def Pch0 : Pch := ⟨fun _ => N3, fun _ => 0, fun _ => N3, 0⟩
/-- The cells of a patch in a block, from o on. -/
def PchB (W : World) (b o : Nat) (P : Pch) : Prop := b < W.heap.size ∧ ∀ j, j < 65 → W.cell? ⟨b, o + j, none⟩ = some (P.c j)
theorem PchB.below {W W' : World} {b o : Nat} {P : Pch} (h : PchB W b o P) (hb : Below W.heap.size W W') : PchB W' b o P :=
  ⟨Nat.lt_of_lt_of_le h.1 hb.size, fun j hj => (hb.cell (p := ⟨b, _, none⟩) h.1).trans (h.2 j hj)⟩
theorem PchB.of {W : World} {b : Nat} {t : TypeId} {P : Pch} (h : Blk W b t P.row) : PchB W b 0 P := ⟨h.lt, fun j hj => by rw [h.cell, Nat.zero_add]; exact P.at_ hj⟩
theorem rng_F {W : World} {b o n : Nat} {f : Nat → Value} (h : ∀ j, j < n → W.cell? ⟨b, o + j, none⟩ = some (f j)) : W.rangeAt b o (cellsF n f).toList := by
  intro j v hv
  have hj : j < n := by
    have := (List.getElem?_eq_some_iff.1 hv).1
    rwa [Array.length_toList, cellsF_size] at this
  rw [Array.getElem?_toList, cellsF_at f hj] at hv
  rw [h j hj, hv]
theorem PchB.rng {W : World} {b o : Nat} {P : Pch} (h : PchB W b o P) : W.rangeAt b o P.row.toList := rng_F h.2
/-- The control points, the normals, a normal, a corner, of a patch in a block. -/
theorem ptsC_F (n : Nat) (p : Nat → P3) : ptsC n p = cellsF (n * 3) fun j => qC p (j / 3) (j % 3) := rfl
theorem PchB.pts {W : World} {b o : Nat} {P : Pch} (h : PchB W b o P) : W.rangeAt b o (ptsC 16 P.pt).toList := by
  rw [ptsC_F]
  refine rng_F fun j hj => ?_
  rw [h.2 j (by omega)]
  unfold Pch.c
  rw [if_pos (by omega)]
theorem PchB.nms {W : World} {b o : Nat} {P : Pch} (h : PchB W b o P) : W.rangeAt b (o + 52) (ptsC 4 P.nm).toList := by
  rw [ptsC_F]
  refine rng_F fun j hj => ?_
  rw [Nat.add_assoc, h.2 (52 + j) (by omega)]
  unfold Pch.c
  rw [if_neg (by omega), if_neg (by omega), if_pos (by omega), show 52 + j - 52 = j by omega]
theorem PchB.pt {W : World} {b o : Nat} {P : Pch} (h : PchB W b o P) {k : Nat} (hk : k < 16) : W.cell? ⟨b, o + k * 3, none⟩ = some (.int .i64 (P.pt k).x) ∧ W.cell? ⟨b, o + k * 3 + 1, none⟩ = some (.int .i64 (P.pt k).y) ∧ W.cell? ⟨b, o + k * 3 + 2, none⟩ = some (.int .i64 (P.pt k).z) := by
  refine ⟨?_, ?_, ?_⟩
  · rw [h.2 (k * 3) (by omega)]
    unfold Pch.c qC
    rw [if_pos (by omega), if_pos (by omega), show k * 3 / 3 = k by omega]
  · rw [Nat.add_assoc, h.2 (k * 3 + 1) (by omega)]
    unfold Pch.c qC
    rw [if_pos (by omega), if_neg (by omega), if_pos (by omega), show (k * 3 + 1) / 3 = k by omega]
  · rw [Nat.add_assoc, h.2 (k * 3 + 2) (by omega)]
    unfold Pch.c qC
    rw [if_pos (by omega), if_neg (by omega), if_neg (by omega), show (k * 3 + 2) / 3 = k by omega]
theorem PchB.nm {W : World} {b o : Nat} {P : Pch} (h : PchB W b o P) {k : Nat} (hk : k < 4) : W.cell? ⟨b, o + 52 + k * 3, none⟩ = some (.int .i64 (P.nm k).x) ∧ W.cell? ⟨b, o + 52 + k * 3 + 1, none⟩ = some (.int .i64 (P.nm k).y) ∧ W.cell? ⟨b, o + 52 + k * 3 + 2, none⟩ = some (.int .i64 (P.nm k).z) := by
  refine ⟨?_, ?_, ?_⟩
  · rw [show o + 52 + k * 3 = o + (52 + k * 3) by omega, h.2 (52 + k * 3) (by omega)]
    unfold Pch.c qC
    rw [if_neg (by omega), if_neg (by omega), if_pos (by omega), if_pos (by omega), show (52 + k * 3 - 52) / 3 = k by omega]
  · rw [show o + 52 + k * 3 + 1 = o + (52 + k * 3 + 1) by omega, h.2 (52 + k * 3 + 1) (by omega)]
    unfold Pch.c qC
    rw [if_neg (by omega), if_neg (by omega), if_pos (by omega), if_neg (by omega), if_pos (by omega), show (52 + k * 3 + 1 - 52) / 3 = k by omega]
  · rw [show o + 52 + k * 3 + 2 = o + (52 + k * 3 + 2) by omega, h.2 (52 + k * 3 + 2) (by omega)]
    unfold Pch.c qC
    rw [if_neg (by omega), if_neg (by omega), if_pos (by omega), if_neg (by omega), if_neg (by omega), show (52 + k * 3 + 2 - 52) / 3 = k by omega]
theorem PchB.co {W : World} {b o : Nat} {P : Pch} (h : PchB W b o P) {k : Nat} (hk : k < 4) : W.cell? ⟨b, o + 48 + k, none⟩ = some (.int .i64 (P.co k)) := by
  rw [Nat.add_assoc, h.2 (48 + k) (by omega)]
  unfold Pch.c
  rw [if_neg (by omega), if_pos (by omega), show 48 + k - 48 = k by omega]
/-- A row of textures. -/
def texW (t : TexD) (B : Option Addr) (m : Nat) : List Value := [.string t.nm, .int .i64 t.W, .int .i64 t.H, .slice B t.rows.length m]
def XL (W : World) (A : Option Addr) (ts : List TexD) : Prop := 0 < ts.length → ∃ b off, A = some ⟨b, off, none⟩ ∧ b < W.heap.size ∧ ∀ i (h : i < ts.length), ∃ B m, (∀ j, j < 4 → W.cell? ⟨b, off + i * 4 + j, none⟩ = (texW ts[i] B m)[j]?) ∧ IL W B ts[i].rows
theorem XL.below {W W' : World} {A : Option Addr} {ts : List TexD} (h : XL W A ts) (hb : Below W.heap.size W W') : XL W' A ts := fun hn => by
  obtain ⟨b, off, e, hl, hc⟩ := h hn
  refine ⟨b, off, e, Nat.lt_of_lt_of_le hl hb.size, fun i hi => ?_⟩
  obtain ⟨B, m, h1, h2⟩ := hc i hi
  exact ⟨B, m, fun j hj => (hb.cell (p := ⟨b, _, none⟩) hl).trans (h1 j hj), h2.below hb⟩
theorem XL.at_ {W : World} {A : Option Addr} {ts : List TexD} (h : XL W A ts) (i : Nat) (hi : i < ts.length) : ∃ b off B m, A = some ⟨b, off, none⟩ ∧ b < W.heap.size ∧ (∀ j, j < 4 → W.cell? ⟨b, off + i * 4 + j, none⟩ = (texW ts[i] B m)[j]?) ∧ IL W B ts[i].rows := by
  obtain ⟨b, off, e, hl, hc⟩ := h (by omega)
  obtain ⟨B, m, h1, h2⟩ := hc i hi
  exact ⟨b, off, B, m, e, hl, h1, h2⟩
/-- A key's cells; a row of keys. -/
def kyC (k : Ky) : List Value := [.int .i64 k.1, .int .i64 k.2.1, .int .i64 k.2.2.1, .int .i64 k.2.2.2.1, .int .i64 k.2.2.2.2]
def KL (W : World) (A : Option Addr) (ks : List Ky) : Prop := 0 < ks.length → ∃ b off, A = some ⟨b, off, none⟩ ∧ b < W.heap.size ∧ ∀ i (h : i < ks.length), ∀ j, j < 5 → W.cell? ⟨b, off + i * 5 + j, none⟩ = (kyC ks[i])[j]?
theorem KL.below {W W' : World} {A : Option Addr} {ks : List Ky} (h : KL W A ks) (hb : Below W.heap.size W W') : KL W' A ks := fun hn => by
  obtain ⟨b, off, e, hl, hc⟩ := h hn
  exact ⟨b, off, e, Nat.lt_of_lt_of_le hl hb.size, fun i hi j hj => (hb.cell (p := ⟨b, _, none⟩) hl).trans (hc i hi j hj)⟩
theorem KL.at_ {W : World} {A : Option Addr} {ks : List Ky} (h : KL W A ks) (i : Nat) (hi : i < ks.length) : ∃ b off, A = some ⟨b, off, none⟩ ∧ b < W.heap.size ∧ W.cell? ⟨b, off + i * 5, none⟩ = some (.int .i64 ks[i].1) ∧ W.cell? ⟨b, off + i * 5 + 1, none⟩ = some (.int .i64 ks[i].2.1) ∧ W.cell? ⟨b, off + i * 5 + 2, none⟩ = some (.int .i64 ks[i].2.2.1) ∧ W.cell? ⟨b, off + i * 5 + 3, none⟩ = some (.int .i64 ks[i].2.2.2.1) ∧ W.cell? ⟨b, off + i * 5 + 4, none⟩ = some (.int .i64 ks[i].2.2.2.2) := by
  obtain ⟨b, off, e, hl, hc⟩ := h (by omega)
  exact ⟨b, off, e, hl, hc i hi 0 (by omega), hc i hi 1 (by omega), hc i hi 2 (by omega), hc i hi 3 (by omega), hc i hi 4 (by omega)⟩
end Go.Proofs.Ytpaehkjnefgaiaa
namespace Go.Proofs.Ytpaehkjnefgaiaa
open Go.ChangeShapes Go.WideShapes Go.ChangeAt Go.RowKit
set_option linter.unusedVariables false
set_option linter.unusedSimpArgs false
section
variable {H : Type}
theorem addr_addN (b off k : Nat) : (⟨b, off, none⟩ : Addr).add k = ⟨b, off + k, none⟩ := by
  unfold Addr.add
  split <;> simp_all
theorem weights_mem_all {P : Program} {e : TypeId} : ∀ {ds : List (DataW H)} {d : DataW H}, d ∈ ds → ∀ n ∈ d.weights P e, n ∈ DataW.weightsAll P e ds
  | [], _, h, _, _ => by cases h
  | d0 :: ds, d, h, n, hn => by
    simp only [DataW.weightsAll, List.mem_append]
    rcases List.mem_cons.1 h with rfl | h
    · exact .inl hn
    · exact .inr (weights_mem_all h n hn)
/-- Cells that read as data of a type, no slice or string of which weighs more than the form's reach. -/
def TW (enc : TypeId × Value → H) (P : Program) (w : World) (base : Nat) (spare : Nat → Bool) (held : Bool) (t : TypeId) (cs : List Value) : Prop :=
  ∃ (fuel : Nat) (x : DataW H × List MemPlace), DataW.trod enc P w base spare held fuel t cs = some x ∧ ∀ n ∈ x.1.weights P t, n ≤ reachBytes
variable {enc : TypeId × Value → H} {P : Program} {w : World} {base : Nat} {spare : Nat → Bool} {held : Bool}
theorem tw_leaf : ∀ (f : Nat) (t : TypeId) (off0 o : Nat) (lt : TypeId), (o, lt) ∈ leavesAt P f off0 t → ∀ (cs : List Value), TW enc P w base spare held t cs →
    off0 ≤ o ∧ ∃ c, cs[o - off0]? = some c ∧ TW enc P w base spare held lt [c]
  | 0, _, _, _, _, h, _, _ => by simp [leavesAt] at h
  | f + 1, t, off0, o, lt, h, cs, ⟨fu, x, hx, hw⟩ => by
    unfold leavesAt at h
    split at h
    · rename_i fs hu
      obtain ⟨fd, hfd, hm⟩ := List.mem_flatMap.1 h
      obtain ⟨ys, n', _, hxe, hlen, hyl, hf⟩ := DataW.trod_struct hu hx
      obtain ⟨j, hj⟩ := List.getElem?_of_mem hfd
      have hj' : fs[j]? = some fd := by simpa using hj
      have h1 := hf j fd hj'
      have hjl : j < ys.length := by rw [hyl]; exact (Array.getElem?_eq_some_iff.1 hj').1
      rw [List.getElem?_eq_getElem hjl] at h1
      have hwj : ∀ n ∈ (ys[j]).1.weights P fd.type, n ≤ reachBytes := fun n hn => hw n (by
        rw [hxe]
        simp only [DataW.weights, hu]
        exact DataW.weights_mem_each (j := j) (t := fd.type) (d := ys[j].1) (by simp [hj']) (by simp [hjl]) n hn)
      obtain ⟨hle, c, hc, hy⟩ := tw_leaf f fd.type (off0 + fd.offset) o lt hm _ ⟨_, _, h1, hwj⟩
      refine ⟨by omega, c, ?_, hy⟩
      rw [List.getElem?_take] at hc
      split at hc
      · rw [List.getElem?_drop] at hc
        rw [← hc]; congr 1; omega
      · cases hc
    · rename_i k e hu
      obtain ⟨i, hi, hm⟩ := List.mem_flatMap.1 h
      rw [List.mem_range] at hi
      obtain ⟨ys, n', _, hxe, hlen, hyl, hf⟩ := DataW.trod_array hu hx
      have h1 := hf i hi
      have hjl : i < ys.length := by rw [hyl]; exact hi
      rw [List.getElem?_eq_getElem hjl] at h1
      have hwj : ∀ n ∈ (ys[i]).1.weights P e, n ≤ reachBytes := fun n hn => hw n (by
        rw [hxe]
        simp only [DataW.weights, hu]
        exact weights_mem_all (List.mem_map.2 ⟨ys[i], List.getElem_mem hjl, rfl⟩) n hn)
      obtain ⟨hle, c, hc, hy⟩ := tw_leaf f e (off0 + i * P.cellsOf e) o lt hm _ ⟨_, _, h1, hwj⟩
      refine ⟨by omega, c, ?_, hy⟩
      rw [List.getElem?_take] at hc
      split at hc
      · rw [List.getElem?_drop] at hc
        rw [← hc]; congr 1; omega
      · cases hc
    · rename_i hs ha
      simp only [List.mem_singleton, Prod.mk.injEq] at h
      obtain ⟨rfl, rfl⟩ := h
      obtain ⟨c, rfl⟩ := trod_single hx (fun fs hu => hs fs hu) (fun k e hu => ha k e hu)
      exact ⟨Nat.le_refl _, c, by simp, ⟨_, _, hx, hw⟩⟩
theorem tw_int {t : TypeId} {c : Value} (hti : P.underlying t = some (.int .i64)) (h : TW enc P w base spare held t [c]) : ∃ a : Int, c = .int .i64 a ∧ (-9223372036854775808 ≤ a ∧ a ≤ 9223372036854775807) := by
  obtain ⟨_, _, hy, _⟩ := h
  obtain ⟨a, e0, _, wa⟩ := DataW.trod_int hti hy
  simp at e0
  exact ⟨a, e0, bounds_i64 wa⟩
theorem tw_str {t : TypeId} {c : Value} (hti : P.underlying t = some .string) (h : TW enc P w base spare held t [c]) : ∃ l : List UInt8, c = .string ⟨l.toArray⟩ ∧ l.length ≤ reachBytes := by
  obtain ⟨_, x, hy, hw⟩ := h
  obtain ⟨s, e0, hx, _⟩ := DataW.trod_string hti hy
  simp at e0
  refine ⟨s.data.toList, by rw [e0], hw _ ?_⟩
  rw [hx]
  simp [DataW.weights]
theorem tw_slice {t e : TypeId} {c : Value} {sz bz : Nat} (hu : P.underlying t = some (.slice e)) (hsz : P.cellsOf e = sz) (hbz : P.bytesOf e = bz) (h0 : 0 < sz) (h : TW enc P w base spare held t [c]) :
    ∃ (A : Option Addr) (n k : Nat) (rows : List (List Value)), c = .slice A n k ∧ rows.length = n ∧ n * bz ≤ reachBytes ∧
      (0 < n → ∃ b off, A = some ⟨b, off, none⟩ ∧ b < w.heap.size ∧ ∀ i (hi : i < rows.length), rows[i].length = sz ∧ ∀ j, j < sz → w.cell? ⟨b, off + i * sz + j, none⟩ = rows[i][j]?) ∧
      ∀ r ∈ rows, TW enc P w base spare held e r := by
  obtain ⟨fu, x, hx, hw⟩ := h
  rcases DataW.trod_slice hu hx with ⟨e0, _⟩ | ⟨a, len, cap, elems, rest, n, _, e0, hxe, hb, hl, hm, hlen, hel, _, _⟩
  · simp at e0
    exact ⟨none, 0, 0, [], e0, rfl, by simp, fun h => absurd h (by omega), fun r hr => by cases hr⟩
  · simp only [List.cons.injEq, and_true] at e0
    rw [hsz] at hel
    have each : ∀ i, i < len → ∃ cs', w.cells? base (a.add (i * sz)) sz = some cs' ∧ TW enc P w base spare held e cs' := fun i hi => by
      have h1 := hel i hi
      have hil : i < elems.length := by omega
      rw [List.getElem?_eq_getElem hil] at h1
      obtain ⟨cs', h2, h3⟩ := Option.bind_eq_some_iff.1 h1
      refine ⟨cs', h2, _, _, h3, fun n hn => hw n ?_⟩
      rw [hxe]
      simp only [DataW.weights, hu]
      exact List.mem_cons.2 (.inr (List.mem_append.2 (.inl (weights_mem_all (List.mem_map.2 ⟨elems[i], List.getElem_mem hil, rfl⟩) n hn))))
    obtain ⟨g, hg⟩ : ∃ g : Nat → List Value, ∀ i, i < len → w.cells? base (a.add (i * sz)) sz = some (g i) ∧ TW enc P w base spare held e (g i) :=
      ⟨fun i => if h : i < len then Classical.choose (each i h) else [], fun i hi => by simp only [hi, dif_pos]; exact Classical.choose_spec (each i hi)⟩
    refine ⟨some a, len, cap, (List.range len).map g, e0, by simp, ?_, fun hn => ?_, fun r hr => ?_⟩
    · have : (elems.length + rest.length) * bz ≤ reachBytes := hw _ (by
        rw [hxe]
        simp only [DataW.weights, hu, hbz, List.length_map]
        exact List.mem_cons_self)
      exact Nat.le_trans (Nat.mul_le_mul_right _ (by omega)) this
    · obtain ⟨b, o, s⟩ := a
      obtain ⟨_, hlen0, hat0⟩ := World.cells?_some (hg 0 hn).1
      have q0 := hat0 0 h0
      have hb0 : (⟨b, o, s⟩ : Addr).add (0 * sz) = ⟨b, o, s⟩ := by
        cases s <;> simp [Addr.add]
      rw [hb0] at q0
      have q1 : ∃ u, w.cell? ((⟨b, o, s⟩ : Addr).add 0) = some u := by
        rw [q0]
        exact ⟨(g 0)[0]'(by omega), List.getElem?_eq_getElem (by omega)⟩
      obtain ⟨u, hu0⟩ := q1
      have hs : b < w.heap.size ∧ s = none := by
        have : w.cell? ⟨b, (⟨b, o, s⟩ : Addr).add 0 |>.off, s⟩ = some u := by
          rw [← hu0]
          cases s <;> simp [Addr.add]
        unfold World.cell? at this
        rcases Nat.lt_or_ge b w.heap.size with hb | hb
        · refine ⟨hb, ?_⟩
          cases s with
          | none => rfl
          | some k =>
            simp only [Option.isSome_some, if_true] at this
            split at this <;> cases this
        · simp only [Array.getElem?_eq_none hb] at this; cases this
      obtain ⟨hlt, rfl⟩ := hs
      refine ⟨b, o, rfl, hlt, fun i hi => ?_⟩
      have hi' : i < len := by simpa using hi
      obtain ⟨_, hl2, hat⟩ := World.cells?_some (hg i hi').1
      simp only [List.getElem_map, List.getElem_range]
      refine ⟨hl2, fun j hj => ?_⟩
      have := hat j hj
      rw [addr_addN, addr_addN] at this
      exact this
    · obtain ⟨i, hi, rfl⟩ := List.mem_map.1 hr
      exact (hg i (by simpa using hi)).2
theorem list_of {α β : Type} (f : β → α) (Q : β → Prop) : ∀ (l : List α), (∀ r ∈ l, ∃ q, r = f q ∧ Q q) → ∃ ps : List β, l = ps.map f ∧ ∀ q ∈ ps, Q q
  | [], _ => ⟨[], rfl, fun q hq => by cases hq⟩
  | a :: l, h => by
    obtain ⟨q, rfl, hq⟩ := h a (by simp)
    obtain ⟨ps, hl, hps⟩ := list_of f Q l (fun r hr => h r (by simp [hr]))
    refine ⟨q :: ps, by rw [hl]; rfl, fun p hp => ?_⟩
    rcases List.mem_cons.1 hp with rfl | hp
    · exact hq
    · exact hps p hp
end
end Go.Proofs.Ytpaehkjnefgaiaa
namespace Go.Proofs.Ytpaehkjnefgaiaa
open Go.ChangeShapes Go.WideShapes Go.ChangeAt Go.RowKit
set_option linter.unusedVariables false
set_option linter.unusedSimpArgs false
variable {H : Type} {enc : TypeId × Value → H} {P : Program}
theorem args_below (hl : laidOutB P = true) {W W' : World} (hb : Below W.heap.size W W') : ∀ (ts : List TypeId) (vs : List Value) (ds : List (DataW H)) (ps : List MemPlace),
    (ts.all fun t => P.readableRec t && decide (t < P.types.size)) = true → (∀ x ∈ ps, x.block < W.heap.size) →
    DataW.TrodAll enc P W 0 (fun _ => true) true ts vs ds ps → DataW.TrodAll enc P W' 0 (fun b => decide (b < W.heap.size)) true ts vs ds ps := by
  intro ts
  induction ts with
  | nil =>
    intro vs ds ps _ _ h
    obtain ⟨rfl, rfl, rfl⟩ := trodAll_nil h
    exact trodAll_mk0
  | cons t ts ih =>
    intro vs ds ps ht hx h
    simp only [List.all_cons, Bool.and_eq_true, decide_eq_true_eq] at ht
    obtain ⟨v, vs', d, ds', p, q, rfl, rfl, rfl, h0, h1⟩ := trodAll_cons h
    exact trodAll_cons_mk (Below.trod hl ht.1.1 ht.1.2 h0 hb fun x hp => hx x (by simp [hp])) (ih vs' ds' q ht.2 (fun x hp => hx x (by simp [hp])) h1)
theorem law_post {f : Func} {s : ChangeSpec} {W W' : World} {args : Array Value} {ds gs : List (DataW H)} {before : List MemPlace} {tb : TypeId}
    (hl : laidOutB P = true) (hts : (f.params.toList.all fun t => P.readableRec t && decide (t < P.types.size)) = true) (hv : s.vars = [])
    (hres : f.resultTypes = #[tb]) (htb : P.underlying tb = some .bool) (hr : (s.fn H ds).results = [.lit (.bool true)]) (ha : (s.fn H ds).args = ds) (hg : (s.fn H ds).vars = [])
    (hW : DataW.Whole enc P f.params.toList s.vars false W args.toList ds gs before) (hb : Below W.heap.size W W') :
    s.post enc P f false true false false W args (.bool true) W' := by
  have hlt := fun p hp => hW.lt (p := p) hp
  have hW0 := hW
  obtain ⟨p, q, h1, h2, rfl, hz, hn⟩ := hW
  rw [hv] at h2
  obtain ⟨rfl, rfl⟩ := trodVars_none h2
  simp only [List.append_nil] at *
  refine ⟨ds, [], p, [], p, [], hW0, ?_, ?_, ?_, World.keptBut_mono (fun _ h => h.elim) (hb.frame fun _ => False), fun h => by cases h⟩
  · simp only [List.append_nil, hr, hres]
    exact trodAll_cons_mk (shut_bool htb true) trodAll_mk0
  · simp only [List.append_nil, ha]
    exact args_below hl hb _ _ _ _ hts (fun x hx => hlt x hx) h1
  · simp only [List.append_nil, hg, hv]
    rfl
end Go.Proofs.Ytpaehkjnefgaiaa
namespace Go.Proofs.Ytpaehkjnefgaiaa
open Go.ChangeShapes Go.WideShapes Go.ChangeAt Go.RowKit
set_option linter.unusedVariables false
set_option linter.unusedSimpArgs false
set_option maxRecDepth 100000
section
variable {H : Type} {enc : TypeId × Value → H} {w : World} {base : Nat} {spare : Nat → Bool} {held : Bool}
theorem row_ints {t : TypeId} {k : Nat} {r : List Value} (hl : leavesAt Try.prog 10 0 t = (List.range k).map fun i => (i, 3)) (hk : r.length = k) (h : TW enc Try.prog w base spare held t r) :
    ∃ l : List Int, l.length = k ∧ (∀ y ∈ l, i64B y) ∧ ∀ i, i < k → r[i]? = some (.int .i64 (l.getD i 0)) := by
  obtain ⟨fu, x, hx, _⟩ := h
  obtain ⟨g, hg, hb⟩ := ints_trod hl Try.underlying3 hk hx
  refine ⟨(List.range k).map g, by simp, fun y hy => ?_, fun i hi => ?_⟩
  · obtain ⟨i, hi, rfl⟩ := List.mem_map.1 hy
    exact hb i (by simpa using hi)
  · rw [hg]
    simp [hi]
theorem ext_k {r s : List Value} {k : Nat} (hr : r.length = k) (hs : s.length = k) (h : ∀ i, i < k → r[i]? = s[i]?) : r = s := by
  apply List.ext_getElem?
  intro i
  by_cases hi : i < k
  · exact h i hi
  · rw [List.getElem?_eq_none (by omega), List.getElem?_eq_none (by omega)]
theorem len_rows {sz : Nat} {A : Option Addr} {n : Nat} {rows : List (List Value)} (hn : rows.length = n) (h : 0 < n → ∃ b off, A = some ⟨b, off, none⟩ ∧ b < w.heap.size ∧ ∀ i (hi : i < rows.length), rows[i].length = sz ∧ ∀ j, j < sz → w.cell? ⟨b, off + i * sz + j, none⟩ = rows[i][j]?) : ∀ r ∈ rows, r.length = sz := fun r hr => by
  obtain ⟨i, hi, rfl⟩ := List.getElem_of_mem hr
  obtain ⟨b, off, _, _, hc⟩ := h (by omega)
  exact (hc i hi).1
theorem szIn : Try.prog.cellsOf 3 = 1 := by kernel_rfl
theorem byIn : Try.prog.bytesOf 3 = 8 := by kernel_rfl
theorem lvI : leavesAt Try.prog 10 0 3 = (List.range 1).map fun i => (i, 3) := by kernel_rfl
theorem tw_intsF {c : Value} (h : TW enc Try.prog w base spare held 63 [c]) : ∃ (A : Option Addr) (k : Nat) (l : List Int), c = .slice A l.length k ∧ l.length ≤ reachBytes ∧ (∀ x ∈ l, i64B x) ∧ IL w A l := by
  obtain ⟨A, n, k, rows, rfl, hn, hb, hr, ht⟩ := tw_slice Try.underlying63 szIn byIn (by omega) h
  have hl := len_rows hn hr
  obtain ⟨ps, rfl, hps⟩ := list_of (fun x : Int => [Value.int .i64 x]) (fun x => -9223372036854775808 ≤ x ∧ x ≤ 9223372036854775807) rows (fun r hr => by
    obtain ⟨l, h1, h2, h3⟩ := row_ints lvI (hl r hr) (ht r hr)
    obtain ⟨x, rfl⟩ : ∃ x, l = [x] := by
      match l, h1 with
      | [x], _ => exact ⟨x, rfl⟩
    exact ⟨x, ext_k (hl r hr) rfl (fun i hi => by obtain rfl : i = 0 := by omega
                                                  rw [h3 0 (by omega)]; rfl), h2 x (by simp)⟩)
  have hn2 : ps.length = n := by simpa using hn
  refine ⟨A, k, ps, by rw [hn2], by omega, hps, fun h0 => ?_⟩
  obtain ⟨b, off, e, hb, hc⟩ := hr (by omega)
  refine ⟨b, off, e, hb, fun i hi => ?_⟩
  have := (hc i (by simpa using hi)).2 0 (by omega)
  rw [Nat.add_zero, Nat.mul_one] at this
  rw [this, List.getElem_map]; rfl
theorem tw_rowsF {t e : TypeId} {sz bz : Nat} {c : Value} {β : Type} (F : List Value → β → Prop) (hu : Try.prog.underlying t = some (.slice e)) (hsz : Try.prog.cellsOf e = sz) (hbz : Try.prog.bytesOf e = bz) (h1 : 1 ≤ bz) (h0 : 0 < sz) (hF : ∀ r : List Value, r.length = sz → TW enc Try.prog w base spare held e r → ∃ q, F r q) (h : TW enc Try.prog w base spare held t [c]) :
    ∃ (A : Option Addr) (kk : Nat) (ps : List β), c = .slice A ps.length kk ∧ ps.length ≤ reachBytes ∧ (∀ q ∈ ps, ∃ r, F r q) ∧ (0 < ps.length → ∃ b off, A = some ⟨b, off, none⟩ ∧ b < w.heap.size ∧ ∀ i (hi : i < ps.length), ∃ r, F r ps[i] ∧ ∀ j, j < sz → w.cell? ⟨b, off + i * sz + j, none⟩ = r[j]?) := by
  obtain ⟨A, n, kk, rows, rfl, hn, hb, hr, ht⟩ := tw_slice hu hsz hbz h0 h
  have hln := len_rows hn hr
  have hm : ∀ rows : List (List Value), (∀ r ∈ rows, ∃ q, F r q) → ∃ ps : List β, ps.length = rows.length ∧ ∀ i (h1 : i < rows.length) (h2 : i < ps.length), F rows[i] ps[i] := by
    intro rows
    induction rows with
    | nil => exact fun _ => ⟨[], rfl, fun i h1 _ => absurd h1 (by simp)⟩
    | cons a l ih =>
      intro h
      obtain ⟨q, hq⟩ := h a (by simp)
      obtain ⟨ps, hl, hps⟩ := ih (fun r hr => h r (by simp [hr]))
      refine ⟨q :: ps, by simp [hl], fun i h1 h2 => ?_⟩
      cases i with
      | zero => exact hq
      | succ i => exact hps i (by simpa using h1) (by simpa using h2)
  obtain ⟨ps, hl, hps⟩ := hm rows (fun r hr => hF r (hln r hr) (ht r hr))
  refine ⟨A, kk, ps, by rw [hl, hn], by have := Nat.mul_le_mul_left n h1; omega, fun q hq => ?_, fun hp => ?_⟩
  · obtain ⟨i, hi, rfl⟩ := List.getElem_of_mem hq
    exact ⟨_, hps i (by omega) hi⟩
  · obtain ⟨b, off, e, hb2, hc⟩ := hr (by omega)
    exact ⟨b, off, e, hb2, fun i hi => ⟨_, hps i (by omega) hi, (hc i (by omega)).2⟩⟩
end
end Go.Proofs.Ytpaehkjnefgaiaa
namespace Go.Proofs.Ytpaehkjnefgaiaa
open Go.RowKit
set_option linter.unusedVariables false
set_option linter.unusedSimpArgs false
set_option linter.unnecessarySimpa false
set_option maxRecDepth 100000
theorem lit_any (t : Int) : Gives Try.prog 87 #[.int .i64 t] (.bool (decide (0 ≤ t ∧ t ≤ 255))) := by
  refine Gives.mk fun w => ?_
  go_enter Try.func87, Try.ntmps87
  go_wp2
  all_goals
    go_ret
    refine ⟨ret_bool ?_, (by repeat (first | exact Below.refl _ _ | refine bel_then ?_ _ | refine bel_grow ?_ _ | refine bel_alloc ?_ _ | refine bel_drew ?_ | refine bel_set ?_ (by simp) _ | refine bel_setRow ?_ (by first | omega | (simp; done) | (refine Nat.le_trans ?_ (top_le _ _); simp; done) | (refine Nat.le_succ_of_le (Nat.le_trans ?_ (top_le _ _)); simp; done) | (refine Nat.le_trans ?_ (top_le _ _); simp only [World.size_alloc]; refine Nat.le_succ_of_le (Nat.le_trans ?_ (top_le _ _)); simp; done)) _))⟩
    refine Bool.eq_iff_iff.2 ?_
    simp
    try omega
theorem cell_any (x c : Int) (hx : -1048576 ≤ x ∧ x ≤ 1048576) (h1 : 1 ≤ c) (h2 : c ≤ 16) : Gives Try.prog 86 #[.int .i64 x, .int .i64 c] (.int .i64 (cellN x c)) := by
  obtain ⟨q, r, e1, e2, e3, b1, b2, b3, b4, b5, b6⟩ := tq x (16 * c) (by omega)
  have fin : Hid (∀ u, (r < 0 → u = (r + 16 * c) / 16) → (¬ r < 0 → u = r / 16) → u = cellN x c) := by
    intro u h3 h4
    by_cases hr : r < 0
    · exact cell16 x c h1 h2 (r + 16 * c) (q - 1) u (by rw [e3, Int.sub_mul, Int.mul_comm c 16]; omega) (by omega) (by omega) (h3 hr)
    · exact cell16 x c h1 h2 r q u (by rw [e3, Int.mul_comm c 16]) (by omega) (by omega) (h4 hr)
  clear e3 b3 b4 b5 b6
  refine Gives.mk fun w => ?_
  go_enter Try.func86, Try.ntmps86
  go_wp2
  all_goals
    go_ret
    refine ⟨ret_i64 (fin.out _ ?_ ?_), (by repeat (first | exact Below.refl _ _ | refine bel_then ?_ _ | refine bel_grow ?_ _ | refine bel_alloc ?_ _ | refine bel_drew ?_ | refine bel_set ?_ (by simp) _ | refine bel_setRow ?_ (by first | omega | (simp; done) | (refine Nat.le_trans ?_ (top_le _ _); simp; done) | (refine Nat.le_succ_of_le (Nat.le_trans ?_ (top_le _ _)); simp; done) | (refine Nat.le_trans ?_ (top_le _ _); simp only [World.size_alloc]; refine Nat.le_succ_of_le (Nat.le_trans ?_ (top_le _ _)); simp; done)) _))⟩ <;> intro _
    all_goals first | omega | (rw [Int.tdiv_eq_ediv_of_nonneg (by omega)])
theorem vOf_any (s : P3) (d : Int) (hx : (-1099511627776 ≤ s.x ∧ s.x ≤ 1099511627776) ∧ (-1099511627776 ≤ s.y ∧ s.y ≤ 1099511627776) ∧ -1099511627776 ≤ s.z ∧ s.z ≤ 1099511627776) (hd : 1 ≤ d ∧ d ≤ 16777216) : Gives Try.prog 89 #[.agg #[.int .i64 s.x, .int .i64 s.y, .int .i64 s.z], .int .i64 d] (.agg #[.int .i64 (rnP s d).x, .int .i64 (rnP s d).y, .int .i64 (rnP s d).z]) := by
  have k1 := vRound_any s.x d (by omega) (by omega) (by omega) (by omega)
  have k2 := vRound_any s.y d (by omega) (by omega) (by omega) (by omega)
  have k3 := vRound_any s.z d (by omega) (by omega) (by omega) (by omega)
  refine Gives.mk fun w => ?_
  go_enter Try.func89, Try.ntmps89
  go_upto_region 1 with (fail)
  refine wp_region_tail 13 ?_ (by kernel_rfl) (by kernel_rfl) (by kernel_rfl) (fun x => ?_) (fun x => ?_)
  rotate_left
  · simp only [List.take_succ_cons, List.take_zero]
    repeat (go_big_quiet_step (((first | with_reducible exact k1.quiet _ | with_reducible exact k1.quiet2 _ _ | with_reducible exact k2.quiet _ | with_reducible exact k2.quiet2 _ _ | with_reducible exact k3.quiet _ | with_reducible exact k3.quiet2 _ _))))
    refine wpQuiet_nil ?_
    exact rfl
  simp only [List.drop_succ_cons, List.drop_zero]
  try simp only [Act.put, List.setIfInBounds_toArray, List.set_cons_succ, List.set_cons_zero]
  go_wp2
  refine bodyPost_ret (v := .agg #[.int .i64 (rnP s d).x, .int .i64 (rnP s d).y, .int .i64 (rnP s d).z]) (by simp [results, Try.results89, go_sem, rnP]) rfl ⟨rfl, (by repeat (first | exact Below.refl _ _ | refine bel_then ?_ _ | refine bel_grow ?_ _ | refine bel_alloc ?_ _ | refine bel_drew ?_ | refine bel_set ?_ (by simp) _ | refine bel_setRow ?_ (by first | omega | (simp; done) | (refine Nat.le_trans ?_ (top_le _ _); simp; done) | (refine Nat.le_succ_of_le (Nat.le_trans ?_ (top_le _ _)); simp; done) | (refine Nat.le_trans ?_ (top_le _ _); simp only [World.size_alloc]; refine Nat.le_succ_of_le (Nat.le_trans ?_ (top_le _ _)); simp; done)) _))⟩
end Go.Proofs.Ytpaehkjnefgaiaa
