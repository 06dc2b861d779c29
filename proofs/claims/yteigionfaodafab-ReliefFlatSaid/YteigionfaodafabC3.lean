/- Package curve: a curve's point, a patch's point. What textures tell: cells, blends of directions, lifted points. No program is reached but by the contracts' own numbers. Arguments opened down to their single cells, whatever their structs and arrays. No program is imported. Arguments opened down to their single cells, with what each slice and string weighs. No program is imported. Ways along faces, as the program goes along them; chains of ways about a vertex. No program is imported. Fans: the chain of ways about a vertex that the program goes along; hubs; the edges. No program is imported. -/
import Derived.ProofKit
import Derived.OpenShut
import Derived.Deep.Slices
import Derived.SizedLaws
import Derived.Below
import Derived.Test.YteigionfaodafabC2
namespace Go.Proofs.Yteigionfaodafab
open Go.RowKit
set_option linter.unusedVariables false
set_option linter.unusedSimpArgs false
set_option linter.unnecessarySimpa false
set_option maxRecDepth 100000
def N3 : P3 := ⟨0, 0, 0⟩
end Go.Proofs.Yteigionfaodafab
namespace Go.Proofs.Yteigionfaodafab
open Go.RowKit
set_option linter.unusedVariables false
set_option linter.unusedSimpArgs false
set_option linter.unnecessarySimpa false
def adE (a b : P3) : P3 := ⟨a.x + b.x, a.y + b.y, a.z + b.z⟩
def scE (a : P3) (k : Int) : P3 := ⟨a.x * k, a.y * k, a.z * k⟩
/-- In which of c cells of sixteen units a place lies. -/
def cellN (x c : Int) : Int := (x / 16) % c
theorem cellN_bd {x c : Int} (h : 1 ≤ c) : 0 ≤ cellN x c ∧ cellN x c < c := ⟨Int.emod_nonneg _ (by omega), Int.emod_lt_of_pos _ (by omega)⟩
theorem cell16 (x c : Int) (h1 : 1 ≤ c) (h2 : c ≤ 16) (r q u : Int) (e : x = q * (c * 16) + r) (r1 : 0 ≤ r) (r2 : r < c * 16) (hu : u = r / 16) : u = cellN x c := by
  subst hu
  unfold cellN
  have e1 : x / 16 = q * c + r / 16 := by
    rw [e, show q * (c * 16) + r = r + (q * c) * 16 by grind, Int.add_mul_ediv_right _ _ (by omega)]; omega
  rw [e1, show q * c + r / 16 = r / 16 + q * c by omega, Int.add_mul_emod_self_right, Int.emod_eq_of_lt (by omega) (by omega)]
/-- A texture's shape is right. -/
def rightF (W H : Int) (rows : List Int) : Bool := decide (1 ≤ W ∧ W ≤ 16 ∧ 1 ≤ H ∧ H ≤ 16 ∧ (rows.length : Int) = W * H) && rows.all fun x => decide (0 ≤ x ∧ x ≤ 255)
theorem rightF_size {W H : Int} {rows : List Int} (h : ¬ (1 ≤ W ∧ W ≤ 16 ∧ 1 ≤ H ∧ H ≤ 16 ∧ (rows.length : Int) = W * H)) : rightF W H rows = false := by
  unfold rightF; rw [decide_eq_false h]; rfl
theorem rightF_cell {W H : Int} {rows : List Int} {k : Nat} (hk : k < rows.length) (h : ¬ (0 ≤ rows[k] ∧ rows[k] ≤ 255)) : rightF W H rows = false := by
  unfold rightF
  rw [show (rows.all fun x => decide (0 ≤ x ∧ x ≤ 255)) = false by rw [List.all_eq_false]; exact ⟨_, List.getElem_mem hk, by simpa using h⟩, Bool.and_false]
theorem rightF_all {W H : Int} {rows : List Int} (h : 1 ≤ W ∧ W ≤ 16 ∧ 1 ≤ H ∧ H ≤ 16 ∧ (rows.length : Int) = W * H) (ha : ∀ k (hk : k < rows.length), 0 ≤ rows[k] ∧ rows[k] ≤ 255) : rightF W H rows = true := by
  unfold rightF
  rw [decide_eq_true h, Bool.true_and, List.all_eq_true]
  intro x hx
  obtain ⟨k, hk, rfl⟩ := List.getElem_of_mem hx
  exact decide_eq_true (ha k hk)
theorem rightF_yes {W H : Int} {rows : List Int} (h : rightF W H rows = true) : (1 ≤ W ∧ W ≤ 16) ∧ (1 ≤ H ∧ H ≤ 16) ∧ (rows.length : Int) = W * H ∧ ∀ x ∈ rows, 0 ≤ x ∧ x ≤ 255 := by
  unfold rightF at h
  rw [Bool.and_eq_true, List.all_eq_true] at h
  obtain ⟨h1, h2⟩ := h
  obtain ⟨a, b, c, d, e⟩ := of_decide_eq_true h1
  exact ⟨⟨a, b⟩, ⟨c, d⟩, e, fun x hx => of_decide_eq_true (h2 x hx)⟩
theorem WH_bd {W H : Int} (h : (1 ≤ W ∧ W ≤ 16) ∧ (1 ≤ H ∧ H ≤ 16)) : 1 ≤ W * H ∧ W * H ≤ 256 := by
  obtain ⟨⟨a, b⟩, c, d⟩ := h
  have h1 := Int.mul_le_mul b d (by omega) (by omega)
  have h2 := Int.mul_pos (show 0 < W by omega) (show 0 < H by omega)
  omega
/-- A cell's number within its bounds. -/
theorem at_bd {W H r c : Int} (hr : 0 ≤ r ∧ r < H) (hc : 0 ≤ c ∧ c < W) : 0 ≤ r * W + c ∧ r * W + c < W * H := by
  have h1 := Int.mul_nonneg hr.1 (show 0 ≤ W by omega)
  have h2 := Int.mul_le_mul_of_nonneg_right (show r ≤ H - 1 by omega) (show 0 ≤ W by omega)
  rw [Int.sub_mul, Int.mul_comm H W] at h2
  omega
def texN (W H : Int) (p : P3) : Int := cellN (p.y + p.z) H * W + cellN p.x W
def texK (W H : Int) (rows : List Int) (p : P3) : Bool := rightF W H rows && wi p
def texV (W H : Int) (rows : List Int) (p : P3) : Int := if texK W H rows p = true then rows.getD (texN W H p).toNat 0 else 0
theorem texV_no {W H : Int} {rows : List Int} {p : P3} (h : texK W H rows p = false) : texV W H rows p = 0 := by unfold texV; rw [h]; rfl
theorem texV_yes {W H : Int} {rows : List Int} {p : P3} (h : texK W H rows p = true) : ∃ (hb : 0 ≤ texN W H p) (hk : (texN W H p).toNat < rows.length), texV W H rows p = rows[(texN W H p).toNat] := by
  have h0 := h
  unfold texK at h0
  rw [Bool.and_eq_true] at h0
  obtain ⟨hw, hh, hl, ha⟩ := rightF_yes h0.1
  have b := at_bd (cellN_bd (x := p.y + p.z) hh.1) (cellN_bd (x := p.x) hw.1)
  have b' : 0 ≤ texN W H p ∧ texN W H p < W * H := b
  have hk : (texN W H p).toNat < rows.length := by omega
  refine ⟨b'.1, hk, ?_⟩
  unfold texV
  rw [if_pos h, List.getD_eq_getElem?_getD, List.getElem?_eq_getElem hk]
  rfl
def wB (q : P3) (m : Int) : Bool := wiB q.x q.y q.z m
theorem wB_iff {q : P3} {m : Int} : wB q m = true ↔ 0 ≤ m ∧ (-m ≤ q.x ∧ q.x ≤ m) ∧ (-m ≤ q.y ∧ q.y ≤ m) ∧ -m ≤ q.z ∧ q.z ≤ m := wiB_iff _ _ _ _
theorem rnd_mid {s lo hi n : Int} (hn : 1 ≤ n) (hn2 : n ≤ 2305843009213693952) (h1 : lo * n ≤ s) (h2 : s ≤ hi * n) (hs : -2305843009213693952 ≤ s ∧ s ≤ 2305843009213693952) : lo ≤ rnd s n ∧ rnd s n ≤ hi := by
  rw [rnd_in (by omega)]
  constructor
  · rw [Int.le_ediv_iff_mul_le (by omega)]
    have : lo * (2 * n) = 2 * (lo * n) := by rw [Int.mul_left_comm]
    omega
  · have : (2 * s + n) / (2 * n) < hi + 1 := by
      rw [Int.ediv_lt_iff_lt_mul (by omega)]
      have : (hi + 1) * (2 * n) = 2 * (hi * n) + 2 * n := by rw [Int.add_mul, Int.mul_left_comm]; omega
      omega
    omega
/-- Lifted. -/
def lfK (p n : P3) (t h : Int) : Bool := wB p 65024 && wB n 1023 && decide (0 ≤ t ∧ t ≤ 255) && decide (0 ≤ h ∧ h ≤ 255)
def lfH (t h : Int) : Int := rnd (t * h) 255
def lfD (n : P3) (t h : Int) : P3 := rnP (scE n (lfH t h)) 1024
def lfP (p n : P3) (t h : Int) : P3 := if lfK p n t h = true then adE p (lfD n t h) else N3
theorem lfP_no {p n : P3} {t h : Int} (e : lfK p n t h = false) : lfP p n t h = N3 := by unfold lfP; rw [e]; rfl
theorem lfP_yes {p n : P3} {t h : Int} (e : lfK p n t h = true) : lfP p n t h = adE p (lfD n t h) := by unfold lfP; rw [if_pos e]
theorem lfK_yes {p n : P3} {t h : Int} (e : lfK p n t h = true) : wB p 65024 = true ∧ wB n 1023 = true ∧ (0 ≤ t ∧ t ≤ 255) ∧ 0 ≤ h ∧ h ≤ 255 := by
  unfold lfK at e
  simp only [Bool.and_eq_true] at e
  exact ⟨e.1.1.1, e.1.1.2, of_decide_eq_true e.1.2, of_decide_eq_true e.2⟩
theorem th_bd {t h : Int} (ht : 0 ≤ t ∧ t ≤ 255) (hh : 0 ≤ h ∧ h ≤ 255) : 0 ≤ t * h ∧ t * h ≤ h * 255 := by
  have a := Int.mul_nonneg ht.1 hh.1
  have b := Int.mul_le_mul_of_nonneg_right ht.2 hh.1
  rw [Int.mul_comm 255 h] at b
  exact ⟨a, b⟩
theorem lfH_bd {t h : Int} (ht : 0 ≤ t ∧ t ≤ 255) (hh : 0 ≤ h ∧ h ≤ 255) : 0 ≤ lfH t h ∧ lfH t h ≤ h := by
  have b := th_bd ht hh
  exact rnd_mid (by omega) (by omega) (by omega) b.2 (by omega)
theorem lf1_bd {x t h : Int} (hx : -1023 ≤ x ∧ x ≤ 1023) (ht : 0 ≤ t ∧ t ≤ 255) (hh : 0 ≤ h ∧ h ≤ 255) : -260865 ≤ x * lfH t h ∧ x * lfH t h ≤ 260865 ∧ -h * 1024 ≤ x * lfH t h ∧ x * lfH t h ≤ h * 1024 := by
  have b := lfH_bd ht hh
  have a1 := Int.mul_le_mul_of_nonneg_right hx.1 b.1
  have a2 := Int.mul_le_mul_of_nonneg_right hx.2 b.1
  omega
theorem lfD_bd {n : P3} {t h : Int} (hn : wB n 1023 = true) (ht : 0 ≤ t ∧ t ≤ 255) (hh : 0 ≤ h ∧ h ≤ 255) : (-h ≤ (lfD n t h).x ∧ (lfD n t h).x ≤ h) ∧ (-h ≤ (lfD n t h).y ∧ (lfD n t h).y ≤ h) ∧ -h ≤ (lfD n t h).z ∧ (lfD n t h).z ≤ h := by
  rw [wB_iff] at hn
  obtain ⟨_, n1, n2, n3⟩ := hn
  have a1 := lf1_bd n1 ht hh
  have a2 := lf1_bd n2 ht hh
  have a3 := lf1_bd n3 ht hh
  have g1 := rnd_mid (n := 1024) (s := n.x * lfH t h) (by omega) (by omega) a1.2.2.1 a1.2.2.2 (by omega)
  have g2 := rnd_mid (n := 1024) (s := n.y * lfH t h) (by omega) (by omega) a2.2.2.1 a2.2.2.2 (by omega)
  have g3 := rnd_mid (n := 1024) (s := n.z * lfH t h) (by omega) (by omega) a3.2.2.1 a3.2.2.2 (by omega)
  exact ⟨g1, g2, g3⟩
end Go.Proofs.Yteigionfaodafab
namespace Go.Proofs.Yteigionfaodafab
open Go.ChangeShapes Go.WideShapes Go.ChangeAt Go.RowKit
set_option linter.unusedVariables false
set_option linter.unusedSimpArgs false
/-- The single cells of a type: where each lies, and its type. -/
def leavesAt (P : Program) : Nat → Nat → TypeId → List (Nat × TypeId)
  | 0, _, _ => []
  | f + 1, off, t => match P.underlying t with
    | some (.struct fs) => fs.toList.flatMap fun fd => leavesAt P f (off + fd.offset) fd.type
    | some (.array n e) => (List.range n).flatMap fun i => leavesAt P f (off + i * P.cellsOf e) e
    | _ => [(off, t)]
section
variable {H : Type} {enc : TypeId × Value → H} {P : Program} {w : World} {base : Nat} {spare : Nat → Bool} {held : Bool}
theorem trod_single {fuel : Nat} {t : TypeId} {cs : List Value} {x : DataW H × List MemPlace} (h : DataW.trod enc P w base spare held fuel t cs = some x) (hs : ∀ fs, P.underlying t ≠ some (.struct fs)) (ha : ∀ n e, P.underlying t ≠ some (.array n e)) : ∃ c, cs = [c] := by
  cases fuel with
  | zero => simp [DataW.trod] at h
  | succ n =>
    unfold DataW.trod at h
    split at h <;> first | exact ⟨_, rfl⟩ | (rename_i hu; first | exact absurd hu (hs _) | exact absurd hu (ha _ _)) | cases h
theorem leaf_trod : ∀ (f : Nat) (t : TypeId) (off0 o : Nat) (lt : TypeId), (o, lt) ∈ leavesAt P f off0 t → ∀ (n : Nat) (cs : List Value) (x : DataW H × List MemPlace), DataW.trod enc P w base spare held n t cs = some x →
    off0 ≤ o ∧ ∃ c m y, cs[o - off0]? = some c ∧ DataW.trod enc P w base spare held m lt [c] = some y
  | 0, _, _, _, _, h, _, _, _, _ => by simp [leavesAt] at h
  | f + 1, t, off0, o, lt, h, n, cs, x, hx => by
    unfold leavesAt at h
    split at h
    · rename_i fs hu
      obtain ⟨fd, hfd, hm⟩ := List.mem_flatMap.1 h
      obtain ⟨ys, n', _, _, hlen, hyl, hf⟩ := DataW.trod_struct hu hx
      obtain ⟨j, hj⟩ := List.getElem?_of_mem hfd
      have hj' : fs[j]? = some fd := by simpa using hj
      have h1 := hf j fd hj'
      have hjl : j < ys.length := by rw [hyl]; exact (Array.getElem?_eq_some_iff.1 hj').1
      rw [List.getElem?_eq_getElem hjl] at h1
      obtain ⟨hle, c, m, y, hc, hy⟩ := leaf_trod f fd.type (off0 + fd.offset) o lt hm _ _ _ h1
      refine ⟨by omega, c, m, y, ?_, hy⟩
      rw [List.getElem?_take] at hc
      split at hc
      · rw [List.getElem?_drop] at hc
        rw [← hc]; congr 1; omega
      · cases hc
    · rename_i k e hu
      obtain ⟨i, hi, hm⟩ := List.mem_flatMap.1 h
      rw [List.mem_range] at hi
      obtain ⟨ys, n', _, _, hlen, hyl, hf⟩ := DataW.trod_array hu hx
      have h1 := hf i hi
      have hjl : i < ys.length := by rw [hyl]; exact hi
      rw [List.getElem?_eq_getElem hjl] at h1
      obtain ⟨hle, c, m, y, hc, hy⟩ := leaf_trod f e (off0 + i * P.cellsOf e) o lt hm _ _ _ h1
      refine ⟨by omega, c, m, y, ?_, hy⟩
      rw [List.getElem?_take] at hc
      split at hc
      · rw [List.getElem?_drop] at hc
        rw [← hc]; congr 1; omega
      · cases hc
    · rename_i hs ha
      simp only [List.mem_singleton, Prod.mk.injEq] at h
      obtain ⟨rfl, rfl⟩ := h
      obtain ⟨c, rfl⟩ := trod_single hx (fun fs hu => hs fs hu) (fun k e hu => ha k e hu)
      exact ⟨Nat.le_refl _, c, n, x, by simp, hx⟩
/-- All cells whole numbers of 64 bits. -/
theorem ints_trod {t ti : TypeId} {f k n : Nat} {cs : List Value} {x : DataW H × List MemPlace} (hl : leavesAt P f 0 t = (List.range k).map fun i => (i, ti)) (hti : P.underlying ti = some (.int .i64)) (hk : cs.length = k)
    (h : DataW.trod enc P w base spare held n t cs = some x) : ∃ g : Nat → Int, cs = (List.range k).map (fun i => .int .i64 (g i)) ∧ ∀ i, i < k → -9223372036854775808 ≤ g i ∧ g i ≤ 9223372036854775807 := by
  have each : ∀ i, i < k → ∃ a : Int, cs[i]? = some (.int .i64 a) ∧ (-9223372036854775808 ≤ a ∧ a ≤ 9223372036854775807) := fun i hi => by
    obtain ⟨_, c, m, y, hc, hy⟩ := leaf_trod f t 0 i ti (by rw [hl]; exact List.mem_map.2 ⟨i, List.mem_range.2 hi, rfl⟩) n cs x h
    obtain ⟨a, e0, _, wa⟩ := DataW.trod_int hti hy
    simp at e0
    subst e0
    exact ⟨a, by simpa using hc, bounds_i64 wa⟩
  refine ⟨fun i => if h : i < k then Classical.choose (each i h) else 0, ?_, fun i hi => by simp only [hi, dif_pos]; exact (Classical.choose_spec (each i hi)).2⟩
  apply List.ext_getElem?
  intro i
  by_cases hi : i < k
  · rw [(Classical.choose_spec (each i hi)).1]
    simp [hi]
  · rw [List.getElem?_eq_none (by omega), List.getElem?_eq_none (by simp; omega)]
theorem open_ints_agg {r : Reach} {b0 : Nat} {t ti : TypeId} {fs : Array Field} {f k : Nat} {v : Value} {d : DataW H} {p : List MemPlace} (hs : P.underlying t = some (.struct fs)) (hC : P.cellsOf t = k) (hl : leavesAt P f 0 t = (List.range k).map fun i => (i, ti)) (hti : P.underlying ti = some (.int .i64))
    (hv : Value.okWide P w r b0 t v) (h : DataW.Trod enc P w base spare held t v d p) : ∃ g : Nat → Int, v = .agg ((List.range k).map fun i => .int .i64 (g i)).toArray ∧ ∀ i, i < k → -9223372036854775808 ≤ g i ∧ g i ≤ 9223372036854775807 := by
  obtain ⟨cs, rfl, hsz⟩ := okWide_struct hs hv
  obtain ⟨n, hn⟩ := h
  obtain ⟨g, hg, hb⟩ := ints_trod hl hti (by simpa [Value.cells] using hsz.trans hC) hn
  refine ⟨g, ?_, hb⟩
  simp only [Value.cells] at hg
  rw [← hg]
end
end Go.Proofs.Yteigionfaodafab
namespace Go.Proofs.Yteigionfaodafab
open Go.ChangeShapes Go.WideShapes Go.ChangeAt Go.RowKit
set_option linter.unusedVariables false
set_option linter.unusedSimpArgs false
section
variable {H : Type}
variable {enc : TypeId × Value → H} {P : Program} {w : World} {base : Nat} {spare : Nat → Bool} {held : Bool}
end
end Go.Proofs.Yteigionfaodafab
namespace Go.Proofs.Yteigionfaodafab
set_option linter.unusedVariables false
set_option linter.unusedSimpArgs false
/-- A way from a to b in face f; c is where that face comes from to a. -/
structure Way where
  a : Int
  b : Int
  f : Int
  c : Int
def wayR (f : Int) : Int → Int → List Int → List Way
  | _, _, [] => []
  | b, a, t :: r => ⟨a, t, f, b⟩ :: wayR f a t r
def waysF (f : Int) (x : List Int) : List Way := wayR f (x.getD (x.length - 2) 0) (x.getD (x.length - 1) 0) x
def waysL : Nat → List (List Int) → List Way
  | _, [] => []
  | k, x :: r => waysF k x ++ waysL (k + 1) r
def Long (fs : List (List Int)) : Prop := ∀ x ∈ fs, 3 ≤ x.length
def InR (n : Int) (al : List Way) : Prop := ∀ w ∈ al, 0 ≤ w.b ∧ w.b < n
def apart (x y : Way) : Prop := ¬(x.b = y.b ∧ x.f = y.f) ∧ ¬(x.a = y.a ∧ x.b = y.b)
def Apart (al : List Way) : Prop := al.Pairwise apart
theorem apart_symm {x y : Way} (h : apart x y) : apart y x := ⟨fun e => h.1 ⟨e.1.symm, e.2.symm⟩, fun e => h.2 ⟨e.1.symm, e.2.symm⟩⟩
theorem Apart.at_ {al : List Way} (h : Apart al) {p q : Nat} (hp : p < al.length) (hq : q < al.length) (hpq : p ≠ q) : apart al[p] al[q] := by
  rcases Nat.lt_or_ge p q with h' | h'
  · exact List.pairwise_iff_getElem.1 h p q hp hq h'
  · exact apart_symm (List.pairwise_iff_getElem.1 h q p hq hp (by omega))
theorem Apart.eq {al : List Way} (h : Apart al) {x y : Way} (hx : x ∈ al) (hy : y ∈ al) (hn : ¬ apart x y) : x = y := by
  obtain ⟨p, hp, rfl⟩ := List.getElem_of_mem hx
  obtain ⟨q, hq, rfl⟩ := List.getElem_of_mem hy
  by_cases e : p = q
  · subst e; rfl
  · exact absurd (h.at_ hp hq e) hn
theorem Apart.key {al : List Way} (h : Apart al) {x y : Way} (hx : x ∈ al) (hy : y ∈ al) (h1 : x.a = y.a) (h2 : x.b = y.b) : x = y := h.eq hx hy fun n => n.2 ⟨h1, h2⟩
/-- The ways of some faces that are all right. -/
structure WalkOk (n : Int) (fs : List (List Int)) : Prop where
  long : Long fs
  inr : InR n (waysL 0 fs)
  apart : Apart (waysL 0 fs)
  pos : 0 ≤ n
  all : ∀ v, 0 ≤ v → v < n → ∃ w ∈ waysL 0 fs, w.b = v
end Go.Proofs.Yteigionfaodafab
namespace Go.Proofs.Yteigionfaodafab
set_option linter.unusedVariables false
set_option linter.unusedSimpArgs false
def froms (al : List Way) (v : Int) : List Way := al.filter fun w => w.a == v
def ends (L : List Way) (start : Int) : Int := (L.getLast?.map Way.c).getD start
/-- A chain of ways about v, each behind the one ahead of it, begun at start and not yet come to it again. -/
structure FanC (al : List Way) (v start : Int) (L : List Way) : Prop where
  mem : ∀ w ∈ L, w ∈ al ∧ w.a = v
  first : ∀ h : 0 < L.length, L[0].b = start
  link : ∀ i (h : i + 1 < L.length), L[i + 1].b = L[i].c
  mid : ∀ i (h : i + 1 < L.length), L[i].c ≠ start
theorem FanC.nil (al : List Way) (v start : Int) : FanC al v start [] := ⟨by simp, fun h => by simp at h, fun i h => by simp at h, fun i h => by simp at h⟩
/-- What the search answers: the ways that it has come along, and whether it came back to its start. -/
structure FanR (al : List Way) (v start : Int) (L : List Way) (r : Bool) : Prop extends FanC al v start L where
  back : r = true → L ≠ [] ∧ ends L start = start
  stop : r = false → (∀ w ∈ al, w.a = v → w.b ≠ ends L start) ∧ (L = [] ∨ ends L start ≠ start)
/-- The way from a to b, if there is one. -/
def look (al : List Way) (a b : Int) : Option Way := al.find? fun w => w.a == a && w.b == b
def faceOf (al : List Way) (a b : Int) : Int := ((look al a b).map Way.f).getD (-1)
def hubStep (al : List Way) (s : Int × Nat) (w : Way) : Int × Nat := (if s.2 = 0 ∨ look al w.b w.a = none then w.b else s.1, s.2 + 1)
def hubOf (al : List Way) (v : Int) (P : List Way) : Int × Nat := (froms P v).foldl (hubStep al) (0, 0)
/-- An edge: its two vertices, the lower first; the face that goes along it, the one that comes back; -1: none. -/
structure Ed where
  a : Int
  b : Int
  f : Int
  g : Int
def edOf (al : List Way) (a b : Int) : Ed := ⟨a, b, faceOf al a b, faceOf al b a⟩
def ltE (x y : Ed) : Prop := x.a < y.a ∨ (x.a = y.a ∧ x.b < y.b)
theorem ltE_irrefl (x : Ed) : ¬ ltE x x := by unfold ltE; omega
theorem ltE_trans {x y z : Ed} (h : ltE x y) (k : ltE y z) : ltE x z := by unfold ltE at *; omega
structure EdgesR (al : List Way) (es : List Ed) : Prop where
  sorted : es.Pairwise ltE
  mem : ∀ e, e ∈ es ↔ ∃ w ∈ al, e = edOf al (min w.a w.b) (max w.a w.b)
theorem sorted_one : ∀ (l m : List Ed), l.Pairwise ltE → m.Pairwise ltE → (∀ e, e ∈ l ↔ e ∈ m) → l = m
  | [], [], _, _, _ => rfl
  | [], y :: m, _, _, h => by have := (h y).2 (by simp); simp at this
  | x :: l, [], _, _, h => by have := (h x).1 (by simp); simp at this
  | x :: l, y :: m, hl, hm, h => by
    obtain ⟨l1, l2⟩ := List.pairwise_cons.1 hl
    obtain ⟨m1, m2⟩ := List.pairwise_cons.1 hm
    have e : x = y := by
      rcases List.mem_cons.1 ((h x).1 (by simp)) with e | e
      · exact e
      · rcases List.mem_cons.1 ((h y).2 (by simp)) with e2 | e2
        · exact e2.symm
        · exact absurd (ltE_trans (m1 x e) (l1 y e2)) (ltE_irrefl y)
    subst e
    rw [sorted_one l m l2 m2 fun z => ?_]
    have hz := h z
    simp only [List.mem_cons] at hz
    constructor
    · intro hz1
      rcases hz.1 (.inr hz1) with rfl | h2
      · exact absurd (l1 _ hz1) (ltE_irrefl _)
      · exact h2
    · intro hz1
      rcases hz.2 (.inr hz1) with rfl | h2
      · exact absurd (m1 _ hz1) (ltE_irrefl _)
      · exact h2
theorem EdgesR.one {al : List Way} {l m : List Ed} (h : EdgesR al l) (k : EdgesR al m) : l = m := sorted_one l m h.sorted k.sorted fun e => (h.mem e).trans (k.mem e).symm
/-- What Build tells of faces. -/
structure TopoT where
  es : List Ed
  fans : List (List Int)
  rs : List Bool
structure TopoS (n : Int) (fs : List (List Int)) (t : TopoT) : Prop where
  walk : WalkOk n fs
  edges : EdgesR (waysL 0 fs) t.es
  nf : (t.fans.length : Int) = n
  nr : (t.rs.length : Int) = n
  fan : ∀ (v : Nat) (h : v < t.fans.length) (h2 : v < t.rs.length), ∃ L, FanR (waysL 0 fs) v (hubOf (waysL 0 fs) v (waysL 0 fs)).1 L t.rs[v] ∧ L.length = (froms (waysL 0 fs) v).length ∧ t.fans[v] = L.map Way.f
end Go.Proofs.Yteigionfaodafab
