/- Package curve: a curve's point, a patch's point. What textures tell: cells, blends of directions, lifted points. No program is reached but by the contracts' own numbers. Arguments opened down to their single cells, whatever their structs and arrays. No program is imported. Arguments opened down to their single cells, with what each slice and string weighs. No program is imported. Ways along faces, as the program goes along them; chains of ways about a vertex. No program is imported. Fans: the chain of ways about a vertex that the program goes along; hubs; the edges. No program is imported. -/
import Derived.ProofKit
import Derived.OpenShut
import Derived.Deep.Slices
import Derived.SizedLaws
import Derived.Below
import Derived.Test.YteigionfaodafaaC2
namespace Go.Proofs.Yteigionfaodafaa
open Go.RowKit
set_option linter.unusedVariables false
set_option linter.unusedSimpArgs false
set_option linter.unnecessarySimpa false
set_option maxRecDepth 100000
def N3 : P3 := ⟨0, 0, 0⟩
end Go.Proofs.Yteigionfaodafaa
namespace Go.Proofs.Yteigionfaodafaa
open Go.RowKit
set_option linter.unusedVariables false
set_option linter.unusedSimpArgs false
set_option linter.unnecessarySimpa false
def adE (a b : P3) : P3 := ⟨a.x + b.x, a.y + b.y, a.z + b.z⟩
def scE (a : P3) (k : Int) : P3 := ⟨a.x * k, a.y * k, a.z * k⟩
/-- In which of c cells of sixteen units a place lies. -/
def cellN (x c : Int) : Int := (x / 16) % c
theorem cellN_bd {x c : Int} (h : 1 ≤ c) : 0 ≤ cellN x c ∧ cellN x c < c := ⟨Int.emod_nonneg _ (by omega), Int.emod_lt_of_pos _ (by omega)⟩
theorem cell16 (x c : Int) (h1 : 1 ≤ c) (h2 : c ≤ 16) (r q u : Int) (e : x = q * (c * 16) + r) (r1 : 0 ≤ r) (r2 : r < c * 16) (hu : u = r / 16) : u = cellN x c := by
  subst hu
  unfold cellN
  have e1 : x / 16 = q * c + r / 16 := by
    rw [e, show q * (c * 16) + r = r + (q * c) * 16 by grind, Int.add_mul_ediv_right _ _ (by omega)]; omega
  rw [e1, show q * c + r / 16 = r / 16 + q * c by omega, Int.add_mul_emod_self_right, Int.emod_eq_of_lt (by omega) (by omega)]
theorem step16 (x c : Int) (h1 : 1 ≤ c) (p q r s u : Int) (e : x = p * 16 + s) (s1 : 0 ≤ s) (s2 : s < 16) (e2 : p = q * c + r) (r1 : 0 ≤ r) (r2 : r < c) (hu : u = r) : u = cellN x c := by
  subst hu
  unfold cellN
  have e1 : x / 16 = p := by omega
  rw [e1, e2, show q * c + u = u + q * c by omega, Int.add_mul_emod_self_right, Int.emod_eq_of_lt r1 r2]
/-- A texture's shape is right. -/
def rightF (W H : Int) (rows : List Int) : Bool := decide (1 ≤ W ∧ W ≤ 16 ∧ 1 ≤ H ∧ H ≤ 16 ∧ (rows.length : Int) = W * H) && rows.all fun x => decide (0 ≤ x ∧ x ≤ 255)
theorem rightF_size {W H : Int} {rows : List Int} (h : ¬ (1 ≤ W ∧ W ≤ 16 ∧ 1 ≤ H ∧ H ≤ 16 ∧ (rows.length : Int) = W * H)) : rightF W H rows = false := by
  unfold rightF; rw [decide_eq_false h]; rfl
theorem rightF_cell {W H : Int} {rows : List Int} {k : Nat} (hk : k < rows.length) (h : ¬ (0 ≤ rows[k] ∧ rows[k] ≤ 255)) : rightF W H rows = false := by
  unfold rightF
  rw [show (rows.all fun x => decide (0 ≤ x ∧ x ≤ 255)) = false by rw [List.all_eq_false]; exact ⟨_, List.getElem_mem hk, by simpa using h⟩, Bool.and_false]
theorem rightF_all {W H : Int} {rows : List Int} (h : 1 ≤ W ∧ W ≤ 16 ∧ 1 ≤ H ∧ H ≤ 16 ∧ (rows.length : Int) = W * H) (ha : ∀ k (hk : k < rows.length), 0 ≤ rows[k] ∧ rows[k] ≤ 255) : rightF W H rows = true := by
  unfold rightF
  rw [decide_eq_true h, Bool.true_and, List.all_eq_true]
  intro x hx
  obtain ⟨k, hk, rfl⟩ := List.getElem_of_mem hx
  exact decide_eq_true (ha k hk)
theorem rightF_yes {W H : Int} {rows : List Int} (h : rightF W H rows = true) : (1 ≤ W ∧ W ≤ 16) ∧ (1 ≤ H ∧ H ≤ 16) ∧ (rows.length : Int) = W * H ∧ ∀ x ∈ rows, 0 ≤ x ∧ x ≤ 255 := by
  unfold rightF at h
  rw [Bool.and_eq_true, List.all_eq_true] at h
  obtain ⟨h1, h2⟩ := h
  obtain ⟨a, b, c, d, e⟩ := of_decide_eq_true h1
  exact ⟨⟨a, b⟩, ⟨c, d⟩, e, fun x hx => of_decide_eq_true (h2 x hx)⟩
theorem WH_bd {W H : Int} (h : (1 ≤ W ∧ W ≤ 16) ∧ (1 ≤ H ∧ H ≤ 16)) : 1 ≤ W * H ∧ W * H ≤ 256 := by
  obtain ⟨⟨a, b⟩, c, d⟩ := h
  have h1 := Int.mul_le_mul b d (by omega) (by omega)
  have h2 := Int.mul_pos (show 0 < W by omega) (show 0 < H by omega)
  omega
/-- A cell's number within its bounds. -/
theorem at_bd {W H r c : Int} (hr : 0 ≤ r ∧ r < H) (hc : 0 ≤ c ∧ c < W) : 0 ≤ r * W + c ∧ r * W + c < W * H := by
  have h1 := Int.mul_nonneg hr.1 (show 0 ≤ W by omega)
  have h2 := Int.mul_le_mul_of_nonneg_right (show r ≤ H - 1 by omega) (show 0 ≤ W by omega)
  rw [Int.sub_mul, Int.mul_comm H W] at h2
  omega
def texN (W H : Int) (p : P3) : Int := cellN (p.y + p.z) H * W + cellN p.x W
def texK (W H : Int) (rows : List Int) (p : P3) : Bool := rightF W H rows && wi p
def texV (W H : Int) (rows : List Int) (p : P3) : Int := if texK W H rows p = true then rows.getD (texN W H p).toNat 0 else 0
theorem texV_no {W H : Int} {rows : List Int} {p : P3} (h : texK W H rows p = false) : texV W H rows p = 0 := by unfold texV; rw [h]; rfl
theorem texV_yes {W H : Int} {rows : List Int} {p : P3} (h : texK W H rows p = true) : ∃ (hb : 0 ≤ texN W H p) (hk : (texN W H p).toNat < rows.length), texV W H rows p = rows[(texN W H p).toNat] := by
  have h0 := h
  unfold texK at h0
  rw [Bool.and_eq_true] at h0
  obtain ⟨hw, hh, hl, ha⟩ := rightF_yes h0.1
  have b := at_bd (cellN_bd (x := p.y + p.z) hh.1) (cellN_bd (x := p.x) hw.1)
  have b' : 0 ≤ texN W H p ∧ texN W H p < W * H := b
  have hk : (texN W H p).toNat < rows.length := by omega
  refine ⟨b'.1, hk, ?_⟩
  unfold texV
  rw [if_pos h, List.getD_eq_getElem?_getD, List.getElem?_eq_getElem hk]
  rfl
def wB (q : P3) (m : Int) : Bool := wiB q.x q.y q.z m
theorem wB_iff {q : P3} {m : Int} : wB q m = true ↔ 0 ≤ m ∧ (-m ≤ q.x ∧ q.x ≤ m) ∧ (-m ≤ q.y ∧ q.y ≤ m) ∧ -m ≤ q.z ∧ q.z ≤ m := wiB_iff _ _ _ _
def plK (i n : Int) : Bool := decide (1 ≤ n ∧ n ≤ 16 ∧ 0 ≤ i ∧ i ≤ n)
def blK (a b : P3) (i n : Int) : Bool := plK i n && wB a 1023 && wB b 1023
def blS (a b : P3) (i n : Int) : P3 := adE (scE a (n - i)) (scE b i)
def blP (a b : P3) (i n : Int) : P3 := if blK a b i n = true then rnP (blS a b i n) n else N3
theorem blP_no {a b : P3} {i n : Int} (h : blK a b i n = false) : blP a b i n = N3 := by unfold blP; rw [h]; rfl
theorem blP_yes {a b : P3} {i n : Int} (h : blK a b i n = true) : blP a b i n = rnP (blS a b i n) n := by unfold blP; rw [if_pos h]
theorem blK_yes {a b : P3} {i n : Int} (h : blK a b i n = true) : (1 ≤ n ∧ n ≤ 16 ∧ 0 ≤ i ∧ i ≤ n) ∧ wB a 1023 = true ∧ wB b 1023 = true := by
  unfold blK at h
  rw [Bool.and_eq_true, Bool.and_eq_true] at h
  exact ⟨of_decide_eq_true h.1.1, h.1.2, h.2⟩
/-- Between two, by parts that come to n. -/
theorem bl1 {x y lo hi i n : Int} (hn : 1 ≤ n) (hi0 : 0 ≤ i) (hin : i ≤ n) (hx : lo ≤ x ∧ x ≤ hi) (hy : lo ≤ y ∧ y ≤ hi) : lo * n ≤ x * (n - i) + y * i ∧ x * (n - i) + y * i ≤ hi * n := by
  have a1 := Int.mul_le_mul_of_nonneg_right hx.1 (show 0 ≤ n - i by omega)
  have a2 := Int.mul_le_mul_of_nonneg_right hx.2 (show 0 ≤ n - i by omega)
  have a3 := Int.mul_le_mul_of_nonneg_right hy.1 hi0
  have a4 := Int.mul_le_mul_of_nonneg_right hy.2 hi0
  have e1 : lo * (n - i) + lo * i = lo * n := by rw [← Int.mul_add]; congr 1; omega
  have e2 : hi * (n - i) + hi * i = hi * n := by rw [← Int.mul_add]; congr 1; omega
  omega
theorem rnd_mid {s lo hi n : Int} (hn : 1 ≤ n) (hn2 : n ≤ 2305843009213693952) (h1 : lo * n ≤ s) (h2 : s ≤ hi * n) (hs : -2305843009213693952 ≤ s ∧ s ≤ 2305843009213693952) : lo ≤ rnd s n ∧ rnd s n ≤ hi := by
  rw [rnd_in (by omega)]
  constructor
  · rw [Int.le_ediv_iff_mul_le (by omega)]
    have : lo * (2 * n) = 2 * (lo * n) := by rw [Int.mul_left_comm]
    omega
  · have : (2 * s + n) / (2 * n) < hi + 1 := by
      rw [Int.ediv_lt_iff_lt_mul (by omega)]
      have : (hi + 1) * (2 * n) = 2 * (hi * n) + 2 * n := by rw [Int.add_mul, Int.mul_left_comm]; omega
      omega
    omega
theorem bl1_bd {x y i n : Int} (h : 1 ≤ n ∧ n ≤ 16 ∧ 0 ≤ i ∧ i ≤ n) (hx : -1023 ≤ x ∧ x ≤ 1023) (hy : -1023 ≤ y ∧ y ≤ 1023) : -16368 ≤ x * (n - i) + y * i ∧ x * (n - i) + y * i ≤ 16368 := by
  have := bl1 h.1 h.2.2.1 h.2.2.2 hx hy
  omega
theorem mul_1023 {x k : Int} (hx : -1023 ≤ x ∧ x ≤ 1023) (hk : 0 ≤ k ∧ k ≤ 16) : -16368 ≤ x * k ∧ x * k ≤ 16368 := by
  have a1 := Int.mul_le_mul_of_nonneg_right hx.1 hk.1
  have a2 := Int.mul_le_mul_of_nonneg_right hx.2 hk.1
  omega
/-- Among four. -/
def mxK (n : Nat → P3) (i k j m : Int) : Bool := blK (n 0) (n 1) i k && blK (n 3) (n 2) i k && blK (blP (n 0) (n 1) i k) (blP (n 3) (n 2) i k) j m
def mxP (n : Nat → P3) (i k j m : Int) : P3 := if mxK n i k j m = true then blP (blP (n 0) (n 1) i k) (blP (n 3) (n 2) i k) j m else N3
/-- Lifted. -/
def lfK (p n : P3) (t h : Int) : Bool := wB p 65024 && wB n 1023 && decide (0 ≤ t ∧ t ≤ 255) && decide (0 ≤ h ∧ h ≤ 255)
def lfH (t h : Int) : Int := rnd (t * h) 255
def lfD (n : P3) (t h : Int) : P3 := rnP (scE n (lfH t h)) 1024
def lfP (p n : P3) (t h : Int) : P3 := if lfK p n t h = true then adE p (lfD n t h) else N3
theorem lfP_no {p n : P3} {t h : Int} (e : lfK p n t h = false) : lfP p n t h = N3 := by unfold lfP; rw [e]; rfl
theorem lfP_yes {p n : P3} {t h : Int} (e : lfK p n t h = true) : lfP p n t h = adE p (lfD n t h) := by unfold lfP; rw [if_pos e]
theorem lfK_yes {p n : P3} {t h : Int} (e : lfK p n t h = true) : wB p 65024 = true ∧ wB n 1023 = true ∧ (0 ≤ t ∧ t ≤ 255) ∧ 0 ≤ h ∧ h ≤ 255 := by
  unfold lfK at e
  simp only [Bool.and_eq_true] at e
  exact ⟨e.1.1.1, e.1.1.2, of_decide_eq_true e.1.2, of_decide_eq_true e.2⟩
theorem th_bd {t h : Int} (ht : 0 ≤ t ∧ t ≤ 255) (hh : 0 ≤ h ∧ h ≤ 255) : 0 ≤ t * h ∧ t * h ≤ h * 255 := by
  have a := Int.mul_nonneg ht.1 hh.1
  have b := Int.mul_le_mul_of_nonneg_right ht.2 hh.1
  rw [Int.mul_comm 255 h] at b
  exact ⟨a, b⟩
theorem lfH_bd {t h : Int} (ht : 0 ≤ t ∧ t ≤ 255) (hh : 0 ≤ h ∧ h ≤ 255) : 0 ≤ lfH t h ∧ lfH t h ≤ h := by
  have b := th_bd ht hh
  exact rnd_mid (by omega) (by omega) (by omega) b.2 (by omega)
theorem lf1_bd {x t h : Int} (hx : -1023 ≤ x ∧ x ≤ 1023) (ht : 0 ≤ t ∧ t ≤ 255) (hh : 0 ≤ h ∧ h ≤ 255) : -260865 ≤ x * lfH t h ∧ x * lfH t h ≤ 260865 ∧ -h * 1024 ≤ x * lfH t h ∧ x * lfH t h ≤ h * 1024 := by
  have b := lfH_bd ht hh
  have a1 := Int.mul_le_mul_of_nonneg_right hx.1 b.1
  have a2 := Int.mul_le_mul_of_nonneg_right hx.2 b.1
  omega
theorem lfD_bd {n : P3} {t h : Int} (hn : wB n 1023 = true) (ht : 0 ≤ t ∧ t ≤ 255) (hh : 0 ≤ h ∧ h ≤ 255) : (-h ≤ (lfD n t h).x ∧ (lfD n t h).x ≤ h) ∧ (-h ≤ (lfD n t h).y ∧ (lfD n t h).y ≤ h) ∧ -h ≤ (lfD n t h).z ∧ (lfD n t h).z ≤ h := by
  rw [wB_iff] at hn
  obtain ⟨_, n1, n2, n3⟩ := hn
  have a1 := lf1_bd n1 ht hh
  have a2 := lf1_bd n2 ht hh
  have a3 := lf1_bd n3 ht hh
  have g1 := rnd_mid (n := 1024) (s := n.x * lfH t h) (by omega) (by omega) a1.2.2.1 a1.2.2.2 (by omega)
  have g2 := rnd_mid (n := 1024) (s := n.y * lfH t h) (by omega) (by omega) a2.2.2.1 a2.2.2.2 (by omega)
  have g3 := rnd_mid (n := 1024) (s := n.z * lfH t h) (by omega) (by omega) a3.2.2.1 a3.2.2.2 (by omega)
  exact ⟨g1, g2, g3⟩
end Go.Proofs.Yteigionfaodafaa
namespace Go.Proofs.Yteigionfaodafaa
open Go.ChangeShapes Go.WideShapes Go.ChangeAt Go.RowKit
set_option linter.unusedVariables false
set_option linter.unusedSimpArgs false
/-- The single cells of a type: where each lies, and its type. -/
def leavesAt (P : Program) : Nat → Nat → TypeId → List (Nat × TypeId)
  | 0, _, _ => []
  | f + 1, off, t => match P.underlying t with
    | some (.struct fs) => fs.toList.flatMap fun fd => leavesAt P f (off + fd.offset) fd.type
    | some (.array n e) => (List.range n).flatMap fun i => leavesAt P f (off + i * P.cellsOf e) e
    | _ => [(off, t)]
section
variable {H : Type} {enc : TypeId × Value → H} {P : Program} {w : World} {base : Nat} {spare : Nat → Bool} {held : Bool}
theorem trod_single {fuel : Nat} {t : TypeId} {cs : List Value} {x : DataW H × List MemPlace} (h : DataW.trod enc P w base spare held fuel t cs = some x) (hs : ∀ fs, P.underlying t ≠ some (.struct fs)) (ha : ∀ n e, P.underlying t ≠ some (.array n e)) : ∃ c, cs = [c] := by
  cases fuel with
  | zero => simp [DataW.trod] at h
  | succ n =>
    unfold DataW.trod at h
    split at h <;> first | exact ⟨_, rfl⟩ | (rename_i hu; first | exact absurd hu (hs _) | exact absurd hu (ha _ _)) | cases h
theorem leaf_trod : ∀ (f : Nat) (t : TypeId) (off0 o : Nat) (lt : TypeId), (o, lt) ∈ leavesAt P f off0 t → ∀ (n : Nat) (cs : List Value) (x : DataW H × List MemPlace), DataW.trod enc P w base spare held n t cs = some x →
    off0 ≤ o ∧ ∃ c m y, cs[o - off0]? = some c ∧ DataW.trod enc P w base spare held m lt [c] = some y
  | 0, _, _, _, _, h, _, _, _, _ => by simp [leavesAt] at h
  | f + 1, t, off0, o, lt, h, n, cs, x, hx => by
    unfold leavesAt at h
    split at h
    · rename_i fs hu
      obtain ⟨fd, hfd, hm⟩ := List.mem_flatMap.1 h
      obtain ⟨ys, n', _, _, hlen, hyl, hf⟩ := DataW.trod_struct hu hx
      obtain ⟨j, hj⟩ := List.getElem?_of_mem hfd
      have hj' : fs[j]? = some fd := by simpa using hj
      have h1 := hf j fd hj'
      have hjl : j < ys.length := by rw [hyl]; exact (Array.getElem?_eq_some_iff.1 hj').1
      rw [List.getElem?_eq_getElem hjl] at h1
      obtain ⟨hle, c, m, y, hc, hy⟩ := leaf_trod f fd.type (off0 + fd.offset) o lt hm _ _ _ h1
      refine ⟨by omega, c, m, y, ?_, hy⟩
      rw [List.getElem?_take] at hc
      split at hc
      · rw [List.getElem?_drop] at hc
        rw [← hc]; congr 1; omega
      · cases hc
    · rename_i k e hu
      obtain ⟨i, hi, hm⟩ := List.mem_flatMap.1 h
      rw [List.mem_range] at hi
      obtain ⟨ys, n', _, _, hlen, hyl, hf⟩ := DataW.trod_array hu hx
      have h1 := hf i hi
      have hjl : i < ys.length := by rw [hyl]; exact hi
      rw [List.getElem?_eq_getElem hjl] at h1
      obtain ⟨hle, c, m, y, hc, hy⟩ := leaf_trod f e (off0 + i * P.cellsOf e) o lt hm _ _ _ h1
      refine ⟨by omega, c, m, y, ?_, hy⟩
      rw [List.getElem?_take] at hc
      split at hc
      · rw [List.getElem?_drop] at hc
        rw [← hc]; congr 1; omega
      · cases hc
    · rename_i hs ha
      simp only [List.mem_singleton, Prod.mk.injEq] at h
      obtain ⟨rfl, rfl⟩ := h
      obtain ⟨c, rfl⟩ := trod_single hx (fun fs hu => hs fs hu) (fun k e hu => ha k e hu)
      exact ⟨Nat.le_refl _, c, n, x, by simp, hx⟩
/-- All cells whole numbers of 64 bits. -/
theorem ints_trod {t ti : TypeId} {f k n : Nat} {cs : List Value} {x : DataW H × List MemPlace} (hl : leavesAt P f 0 t = (List.range k).map fun i => (i, ti)) (hti : P.underlying ti = some (.int .i64)) (hk : cs.length = k)
    (h : DataW.trod enc P w base spare held n t cs = some x) : ∃ g : Nat → Int, cs = (List.range k).map (fun i => .int .i64 (g i)) ∧ ∀ i, i < k → -9223372036854775808 ≤ g i ∧ g i ≤ 9223372036854775807 := by
  have each : ∀ i, i < k → ∃ a : Int, cs[i]? = some (.int .i64 a) ∧ (-9223372036854775808 ≤ a ∧ a ≤ 9223372036854775807) := fun i hi => by
    obtain ⟨_, c, m, y, hc, hy⟩ := leaf_trod f t 0 i ti (by rw [hl]; exact List.mem_map.2 ⟨i, List.mem_range.2 hi, rfl⟩) n cs x h
    obtain ⟨a, e0, _, wa⟩ := DataW.trod_int hti hy
    simp at e0
    subst e0
    exact ⟨a, by simpa using hc, bounds_i64 wa⟩
  refine ⟨fun i => if h : i < k then Classical.choose (each i h) else 0, ?_, fun i hi => by simp only [hi, dif_pos]; exact (Classical.choose_spec (each i hi)).2⟩
  apply List.ext_getElem?
  intro i
  by_cases hi : i < k
  · rw [(Classical.choose_spec (each i hi)).1]
    simp [hi]
  · rw [List.getElem?_eq_none (by omega), List.getElem?_eq_none (by simp; omega)]
theorem open_ints_agg {r : Reach} {b0 : Nat} {t ti : TypeId} {fs : Array Field} {f k : Nat} {v : Value} {d : DataW H} {p : List MemPlace} (hs : P.underlying t = some (.struct fs)) (hC : P.cellsOf t = k) (hl : leavesAt P f 0 t = (List.range k).map fun i => (i, ti)) (hti : P.underlying ti = some (.int .i64))
    (hv : Value.okWide P w r b0 t v) (h : DataW.Trod enc P w base spare held t v d p) : ∃ g : Nat → Int, v = .agg ((List.range k).map fun i => .int .i64 (g i)).toArray ∧ ∀ i, i < k → -9223372036854775808 ≤ g i ∧ g i ≤ 9223372036854775807 := by
  obtain ⟨cs, rfl, hsz⟩ := okWide_struct hs hv
  obtain ⟨n, hn⟩ := h
  obtain ⟨g, hg, hb⟩ := ints_trod hl hti (by simpa [Value.cells] using hsz.trans hC) hn
  refine ⟨g, ?_, hb⟩
  simp only [Value.cells] at hg
  rw [← hg]
end
end Go.Proofs.Yteigionfaodafaa
namespace Go.Proofs.Yteigionfaodafaa
open Go.ChangeShapes Go.WideShapes Go.ChangeAt Go.RowKit
set_option linter.unusedVariables false
set_option linter.unusedSimpArgs false
section
variable {H : Type}
theorem addr_addN (b off k : Nat) : (⟨b, off, none⟩ : Addr).add k = ⟨b, off + k, none⟩ := by
  unfold Addr.add
  split <;> simp_all
theorem weights_mem_all {P : Program} {e : TypeId} : ∀ {ds : List (DataW H)} {d : DataW H}, d ∈ ds → ∀ n ∈ d.weights P e, n ∈ DataW.weightsAll P e ds
  | [], _, h, _, _ => by cases h
  | d0 :: ds, d, h, n, hn => by
    simp only [DataW.weightsAll, List.mem_append]
    rcases List.mem_cons.1 h with rfl | h
    · exact .inl hn
    · exact .inr (weights_mem_all h n hn)
/-- Cells that read as data of a type, no slice or string of which weighs more than the form's reach. -/
def TW (enc : TypeId × Value → H) (P : Program) (w : World) (base : Nat) (spare : Nat → Bool) (held : Bool) (t : TypeId) (cs : List Value) : Prop :=
  ∃ (fuel : Nat) (x : DataW H × List MemPlace), DataW.trod enc P w base spare held fuel t cs = some x ∧ ∀ n ∈ x.1.weights P t, n ≤ reachBytes
variable {enc : TypeId × Value → H} {P : Program} {w : World} {base : Nat} {spare : Nat → Bool} {held : Bool}
theorem tw_leaf : ∀ (f : Nat) (t : TypeId) (off0 o : Nat) (lt : TypeId), (o, lt) ∈ leavesAt P f off0 t → ∀ (cs : List Value), TW enc P w base spare held t cs →
    off0 ≤ o ∧ ∃ c, cs[o - off0]? = some c ∧ TW enc P w base spare held lt [c]
  | 0, _, _, _, _, h, _, _ => by simp [leavesAt] at h
  | f + 1, t, off0, o, lt, h, cs, ⟨fu, x, hx, hw⟩ => by
    unfold leavesAt at h
    split at h
    · rename_i fs hu
      obtain ⟨fd, hfd, hm⟩ := List.mem_flatMap.1 h
      obtain ⟨ys, n', _, hxe, hlen, hyl, hf⟩ := DataW.trod_struct hu hx
      obtain ⟨j, hj⟩ := List.getElem?_of_mem hfd
      have hj' : fs[j]? = some fd := by simpa using hj
      have h1 := hf j fd hj'
      have hjl : j < ys.length := by rw [hyl]; exact (Array.getElem?_eq_some_iff.1 hj').1
      rw [List.getElem?_eq_getElem hjl] at h1
      have hwj : ∀ n ∈ (ys[j]).1.weights P fd.type, n ≤ reachBytes := fun n hn => hw n (by
        rw [hxe]
        simp only [DataW.weights, hu]
        exact DataW.weights_mem_each (j := j) (t := fd.type) (d := ys[j].1) (by simp [hj']) (by simp [hjl]) n hn)
      obtain ⟨hle, c, hc, hy⟩ := tw_leaf f fd.type (off0 + fd.offset) o lt hm _ ⟨_, _, h1, hwj⟩
      refine ⟨by omega, c, ?_, hy⟩
      rw [List.getElem?_take] at hc
      split at hc
      · rw [List.getElem?_drop] at hc
        rw [← hc]; congr 1; omega
      · cases hc
    · rename_i k e hu
      obtain ⟨i, hi, hm⟩ := List.mem_flatMap.1 h
      rw [List.mem_range] at hi
      obtain ⟨ys, n', _, hxe, hlen, hyl, hf⟩ := DataW.trod_array hu hx
      have h1 := hf i hi
      have hjl : i < ys.length := by rw [hyl]; exact hi
      rw [List.getElem?_eq_getElem hjl] at h1
      have hwj : ∀ n ∈ (ys[i]).1.weights P e, n ≤ reachBytes := fun n hn => hw n (by
        rw [hxe]
        simp only [DataW.weights, hu]
        exact weights_mem_all (List.mem_map.2 ⟨ys[i], List.getElem_mem hjl, rfl⟩) n hn)
      obtain ⟨hle, c, hc, hy⟩ := tw_leaf f e (off0 + i * P.cellsOf e) o lt hm _ ⟨_, _, h1, hwj⟩
      refine ⟨by omega, c, ?_, hy⟩
      rw [List.getElem?_take] at hc
      split at hc
      · rw [List.getElem?_drop] at hc
        rw [← hc]; congr 1; omega
      · cases hc
    · rename_i hs ha
      simp only [List.mem_singleton, Prod.mk.injEq] at h
      obtain ⟨rfl, rfl⟩ := h
      obtain ⟨c, rfl⟩ := trod_single hx (fun fs hu => hs fs hu) (fun k e hu => ha k e hu)
      exact ⟨Nat.le_refl _, c, by simp, ⟨_, _, hx, hw⟩⟩
theorem tw_int {t : TypeId} {c : Value} (hti : P.underlying t = some (.int .i64)) (h : TW enc P w base spare held t [c]) : ∃ a : Int, c = .int .i64 a ∧ (-9223372036854775808 ≤ a ∧ a ≤ 9223372036854775807) := by
  obtain ⟨_, _, hy, _⟩ := h
  obtain ⟨a, e0, _, wa⟩ := DataW.trod_int hti hy
  simp at e0
  exact ⟨a, e0, bounds_i64 wa⟩
theorem tw_str {t : TypeId} {c : Value} (hti : P.underlying t = some .string) (h : TW enc P w base spare held t [c]) : ∃ l : List UInt8, c = .string ⟨l.toArray⟩ ∧ l.length ≤ reachBytes := by
  obtain ⟨_, x, hy, hw⟩ := h
  obtain ⟨s, e0, hx, _⟩ := DataW.trod_string hti hy
  simp at e0
  refine ⟨s.data.toList, by rw [e0], hw _ ?_⟩
  rw [hx]
  simp [DataW.weights]
theorem tw_slice {t e : TypeId} {c : Value} {sz bz : Nat} (hu : P.underlying t = some (.slice e)) (hsz : P.cellsOf e = sz) (hbz : P.bytesOf e = bz) (h0 : 0 < sz) (h : TW enc P w base spare held t [c]) :
    ∃ (A : Option Addr) (n k : Nat) (rows : List (List Value)), c = .slice A n k ∧ rows.length = n ∧ n * bz ≤ reachBytes ∧
      (0 < n → ∃ b off, A = some ⟨b, off, none⟩ ∧ b < w.heap.size ∧ ∀ i (hi : i < rows.length), rows[i].length = sz ∧ ∀ j, j < sz → w.cell? ⟨b, off + i * sz + j, none⟩ = rows[i][j]?) ∧
      ∀ r ∈ rows, TW enc P w base spare held e r := by
  obtain ⟨fu, x, hx, hw⟩ := h
  rcases DataW.trod_slice hu hx with ⟨e0, _⟩ | ⟨a, len, cap, elems, rest, n, _, e0, hxe, hb, hl, hm, hlen, hel, _, _⟩
  · simp at e0
    exact ⟨none, 0, 0, [], e0, rfl, by simp, fun h => absurd h (by omega), fun r hr => by cases hr⟩
  · simp only [List.cons.injEq, and_true] at e0
    rw [hsz] at hel
    have each : ∀ i, i < len → ∃ cs', w.cells? base (a.add (i * sz)) sz = some cs' ∧ TW enc P w base spare held e cs' := fun i hi => by
      have h1 := hel i hi
      have hil : i < elems.length := by omega
      rw [List.getElem?_eq_getElem hil] at h1
      obtain ⟨cs', h2, h3⟩ := Option.bind_eq_some_iff.1 h1
      refine ⟨cs', h2, _, _, h3, fun n hn => hw n ?_⟩
      rw [hxe]
      simp only [DataW.weights, hu]
      exact List.mem_cons.2 (.inr (List.mem_append.2 (.inl (weights_mem_all (List.mem_map.2 ⟨elems[i], List.getElem_mem hil, rfl⟩) n hn))))
    obtain ⟨g, hg⟩ : ∃ g : Nat → List Value, ∀ i, i < len → w.cells? base (a.add (i * sz)) sz = some (g i) ∧ TW enc P w base spare held e (g i) :=
      ⟨fun i => if h : i < len then Classical.choose (each i h) else [], fun i hi => by simp only [hi, dif_pos]; exact Classical.choose_spec (each i hi)⟩
    refine ⟨some a, len, cap, (List.range len).map g, e0, by simp, ?_, fun hn => ?_, fun r hr => ?_⟩
    · have : (elems.length + rest.length) * bz ≤ reachBytes := hw _ (by
        rw [hxe]
        simp only [DataW.weights, hu, hbz, List.length_map]
        exact List.mem_cons_self)
      exact Nat.le_trans (Nat.mul_le_mul_right _ (by omega)) this
    · obtain ⟨b, o, s⟩ := a
      obtain ⟨_, hlen0, hat0⟩ := World.cells?_some (hg 0 hn).1
      have q0 := hat0 0 h0
      have hb0 : (⟨b, o, s⟩ : Addr).add (0 * sz) = ⟨b, o, s⟩ := by
        cases s <;> simp [Addr.add]
      rw [hb0] at q0
      have q1 : ∃ u, w.cell? ((⟨b, o, s⟩ : Addr).add 0) = some u := by
        rw [q0]
        exact ⟨(g 0)[0]'(by omega), List.getElem?_eq_getElem (by omega)⟩
      obtain ⟨u, hu0⟩ := q1
      have hs : b < w.heap.size ∧ s = none := by
        have : w.cell? ⟨b, (⟨b, o, s⟩ : Addr).add 0 |>.off, s⟩ = some u := by
          rw [← hu0]
          cases s <;> simp [Addr.add]
        unfold World.cell? at this
        rcases Nat.lt_or_ge b w.heap.size with hb | hb
        · refine ⟨hb, ?_⟩
          cases s with
          | none => rfl
          | some k =>
            simp only [Option.isSome_some, if_true] at this
            split at this <;> cases this
        · simp only [Array.getElem?_eq_none hb] at this; cases this
      obtain ⟨hlt, rfl⟩ := hs
      refine ⟨b, o, rfl, hlt, fun i hi => ?_⟩
      have hi' : i < len := by simpa using hi
      obtain ⟨_, hl2, hat⟩ := World.cells?_some (hg i hi').1
      simp only [List.getElem_map, List.getElem_range]
      refine ⟨hl2, fun j hj => ?_⟩
      have := hat j hj
      rw [addr_addN, addr_addN] at this
      exact this
    · obtain ⟨i, hi, rfl⟩ := List.mem_map.1 hr
      exact (hg i (by simpa using hi)).2
theorem list_of {α β : Type} (f : β → α) (Q : β → Prop) : ∀ (l : List α), (∀ r ∈ l, ∃ q, r = f q ∧ Q q) → ∃ ps : List β, l = ps.map f ∧ ∀ q ∈ ps, Q q
  | [], _ => ⟨[], rfl, fun q hq => by cases hq⟩
  | a :: l, h => by
    obtain ⟨q, rfl, hq⟩ := h a (by simp)
    obtain ⟨ps, hl, hps⟩ := list_of f Q l (fun r hr => h r (by simp [hr]))
    refine ⟨q :: ps, by rw [hl]; rfl, fun p hp => ?_⟩
    rcases List.mem_cons.1 hp with rfl | hp
    · exact hq
    · exact hps p hp
end
end Go.Proofs.Yteigionfaodafaa
namespace Go.Proofs.Yteigionfaodafaa
set_option linter.unusedVariables false
set_option linter.unusedSimpArgs false
/-- A way from a to b in face f; c is where that face comes from to a. -/
structure Way where
  a : Int
  b : Int
  f : Int
  c : Int
def wayR (f : Int) : Int → Int → List Int → List Way
  | _, _, [] => []
  | b, a, t :: r => ⟨a, t, f, b⟩ :: wayR f a t r
def waysF (f : Int) (x : List Int) : List Way := wayR f (x.getD (x.length - 2) 0) (x.getD (x.length - 1) 0) x
def waysL : Nat → List (List Int) → List Way
  | _, [] => []
  | k, x :: r => waysF k x ++ waysL (k + 1) r
def Long (fs : List (List Int)) : Prop := ∀ x ∈ fs, 3 ≤ x.length
def InR (n : Int) (al : List Way) : Prop := ∀ w ∈ al, 0 ≤ w.b ∧ w.b < n
def apart (x y : Way) : Prop := ¬(x.b = y.b ∧ x.f = y.f) ∧ ¬(x.a = y.a ∧ x.b = y.b)
def Apart (al : List Way) : Prop := al.Pairwise apart
theorem apart_symm {x y : Way} (h : apart x y) : apart y x := ⟨fun e => h.1 ⟨e.1.symm, e.2.symm⟩, fun e => h.2 ⟨e.1.symm, e.2.symm⟩⟩
theorem Apart.at_ {al : List Way} (h : Apart al) {p q : Nat} (hp : p < al.length) (hq : q < al.length) (hpq : p ≠ q) : apart al[p] al[q] := by
  rcases Nat.lt_or_ge p q with h' | h'
  · exact List.pairwise_iff_getElem.1 h p q hp hq h'
  · exact apart_symm (List.pairwise_iff_getElem.1 h q p hq hp (by omega))
theorem Apart.eq {al : List Way} (h : Apart al) {x y : Way} (hx : x ∈ al) (hy : y ∈ al) (hn : ¬ apart x y) : x = y := by
  obtain ⟨p, hp, rfl⟩ := List.getElem_of_mem hx
  obtain ⟨q, hq, rfl⟩ := List.getElem_of_mem hy
  by_cases e : p = q
  · subst e; rfl
  · exact absurd (h.at_ hp hq e) hn
theorem Apart.key {al : List Way} (h : Apart al) {x y : Way} (hx : x ∈ al) (hy : y ∈ al) (h1 : x.a = y.a) (h2 : x.b = y.b) : x = y := h.eq hx hy fun n => n.2 ⟨h1, h2⟩
/-- The ways of some faces that are all right. -/
structure WalkOk (n : Int) (fs : List (List Int)) : Prop where
  long : Long fs
  inr : InR n (waysL 0 fs)
  apart : Apart (waysL 0 fs)
  pos : 0 ≤ n
  all : ∀ v, 0 ≤ v → v < n → ∃ w ∈ waysL 0 fs, w.b = v
end Go.Proofs.Yteigionfaodafaa
namespace Go.Proofs.Yteigionfaodafaa
set_option linter.unusedVariables false
set_option linter.unusedSimpArgs false
def froms (al : List Way) (v : Int) : List Way := al.filter fun w => w.a == v
def ends (L : List Way) (start : Int) : Int := (L.getLast?.map Way.c).getD start
/-- A chain of ways about v, each behind the one ahead of it, begun at start and not yet come to it again. -/
structure FanC (al : List Way) (v start : Int) (L : List Way) : Prop where
  mem : ∀ w ∈ L, w ∈ al ∧ w.a = v
  first : ∀ h : 0 < L.length, L[0].b = start
  link : ∀ i (h : i + 1 < L.length), L[i + 1].b = L[i].c
  mid : ∀ i (h : i + 1 < L.length), L[i].c ≠ start
theorem FanC.nil (al : List Way) (v start : Int) : FanC al v start [] := ⟨by simp, fun h => by simp at h, fun i h => by simp at h, fun i h => by simp at h⟩
/-- What the search answers: the ways that it has come along, and whether it came back to its start. -/
structure FanR (al : List Way) (v start : Int) (L : List Way) (r : Bool) : Prop extends FanC al v start L where
  back : r = true → L ≠ [] ∧ ends L start = start
  stop : r = false → (∀ w ∈ al, w.a = v → w.b ≠ ends L start) ∧ (L = [] ∨ ends L start ≠ start)
/-- The way from a to b, if there is one. -/
def look (al : List Way) (a b : Int) : Option Way := al.find? fun w => w.a == a && w.b == b
def faceOf (al : List Way) (a b : Int) : Int := ((look al a b).map Way.f).getD (-1)
def hubStep (al : List Way) (s : Int × Nat) (w : Way) : Int × Nat := (if s.2 = 0 ∨ look al w.b w.a = none then w.b else s.1, s.2 + 1)
def hubOf (al : List Way) (v : Int) (P : List Way) : Int × Nat := (froms P v).foldl (hubStep al) (0, 0)
/-- An edge: its two vertices, the lower first; the face that goes along it, the one that comes back; -1: none. -/
structure Ed where
  a : Int
  b : Int
  f : Int
  g : Int
def edOf (al : List Way) (a b : Int) : Ed := ⟨a, b, faceOf al a b, faceOf al b a⟩
def ltE (x y : Ed) : Prop := x.a < y.a ∨ (x.a = y.a ∧ x.b < y.b)
theorem ltE_irrefl (x : Ed) : ¬ ltE x x := by unfold ltE; omega
theorem ltE_trans {x y z : Ed} (h : ltE x y) (k : ltE y z) : ltE x z := by unfold ltE at *; omega
structure EdgesR (al : List Way) (es : List Ed) : Prop where
  sorted : es.Pairwise ltE
  mem : ∀ e, e ∈ es ↔ ∃ w ∈ al, e = edOf al (min w.a w.b) (max w.a w.b)
theorem sorted_one : ∀ (l m : List Ed), l.Pairwise ltE → m.Pairwise ltE → (∀ e, e ∈ l ↔ e ∈ m) → l = m
  | [], [], _, _, _ => rfl
  | [], y :: m, _, _, h => by have := (h y).2 (by simp); simp at this
  | x :: l, [], _, _, h => by have := (h x).1 (by simp); simp at this
  | x :: l, y :: m, hl, hm, h => by
    obtain ⟨l1, l2⟩ := List.pairwise_cons.1 hl
    obtain ⟨m1, m2⟩ := List.pairwise_cons.1 hm
    have e : x = y := by
      rcases List.mem_cons.1 ((h x).1 (by simp)) with e | e
      · exact e
      · rcases List.mem_cons.1 ((h y).2 (by simp)) with e2 | e2
        · exact e2.symm
        · exact absurd (ltE_trans (m1 x e) (l1 y e2)) (ltE_irrefl y)
    subst e
    rw [sorted_one l m l2 m2 fun z => ?_]
    have hz := h z
    simp only [List.mem_cons] at hz
    constructor
    · intro hz1
      rcases hz.1 (.inr hz1) with rfl | h2
      · exact absurd (l1 _ hz1) (ltE_irrefl _)
      · exact h2
    · intro hz1
      rcases hz.2 (.inr hz1) with rfl | h2
      · exact absurd (m1 _ hz1) (ltE_irrefl _)
      · exact h2
theorem EdgesR.one {al : List Way} {l m : List Ed} (h : EdgesR al l) (k : EdgesR al m) : l = m := sorted_one l m h.sorted k.sorted fun e => (h.mem e).trans (k.mem e).symm
/-- What Build tells of faces. -/
structure TopoT where
  es : List Ed
  fans : List (List Int)
  rs : List Bool
structure TopoS (n : Int) (fs : List (List Int)) (t : TopoT) : Prop where
  walk : WalkOk n fs
  edges : EdgesR (waysL 0 fs) t.es
  nf : (t.fans.length : Int) = n
  nr : (t.rs.length : Int) = n
  fan : ∀ (v : Nat) (h : v < t.fans.length) (h2 : v < t.rs.length), ∃ L, FanR (waysL 0 fs) v (hubOf (waysL 0 fs) v (waysL 0 fs)).1 L t.rs[v] ∧ L.length = (froms (waysL 0 fs) v).length ∧ t.fans[v] = L.map Way.f
end Go.Proofs.Yteigionfaodafaa
