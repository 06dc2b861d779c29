/- Arguments opened: a patch, a skin, a row of textures. -/
import Derived.Test.YtpaehkjnefgaiaaC8
import Derived.Test.YtpaehkjnefgaiaaC10
import Derived.Test.YtpaehkjnefgaiaaC16
namespace Go.Proofs.Ytpaehkjnefgaiaa
open Go.ChangeShapes Go.WideShapes Go.ChangeAt Go.RowKit
set_option linter.unusedVariables false
set_option linter.unusedSimpArgs false
set_option maxRecDepth 100000
section
variable {H : Type} {enc : TypeId × Value → H} {w : World} {base b0 : Nat} {spare : Nat → Bool} {held : Bool} {v : Value} {d : DataW H} {p : List MemPlace} {r : Reach}
theorem cellsPch : Try.prog.cellsOf 28 = 65 := by kernel_rfl
theorem leavesPch : leavesAt Try.prog 10 0 28 = (List.range 65).map fun i => (i, 3) := by kernel_rfl
def PchI (P : Pch) : Prop := (∀ k, k < 16 → In3 (P.pt k)) ∧ (∀ k, k < 4 → In64 (P.co k)) ∧ ∀ k, k < 4 → In3 (P.nm k)
theorem open_Pch (hv : Value.okWide Try.prog w r b0 28 v) (h : DataW.Trod enc Try.prog w base spare held 28 v d p) :
    ∃ P : Pch, v = .agg P.row ∧ PchI P := by
  obtain ⟨cs, rfl, hsz⟩ := okWide_struct Try.underlying28 hv
  obtain ⟨n, hn⟩ := h
  obtain ⟨g, hg, hb⟩ := ints_trod leavesPch Try.underlying3 (by simpa [Value.cells] using hsz.trans cellsPch) hn
  refine ⟨⟨fun k => ⟨g (k * 3), g (k * 3 + 1), g (k * 3 + 2)⟩, fun k => g (48 + k), fun k => ⟨g (52 + k * 3), g (52 + k * 3 + 1), g (52 + k * 3 + 2)⟩, g 64⟩, ?_, fun k hk => ⟨hb _ (by omega), hb _ (by omega), hb _ (by omega)⟩, fun k hk => hb _ (by omega), fun k hk => ⟨hb _ (by omega), hb _ (by omega), hb _ (by omega)⟩⟩
  simp only [Value.cells] at hg
  have e : cs = ((List.range 65).map fun i => Value.int .i64 (g i)).toArray := Array.ext' (by simpa using hg)
  rw [e]
  congr 1
theorem szSk : Try.prog.cellsOf 30 = 6 := by kernel_rfl
theorem lvSk : leavesAt Try.prog 10 0 30 = [(0, 9), (1, 3), (2, 3), (3, 3), (4, 3), (5, 3)] := by kernel_rfl
theorem open_Skin {cs : List Value} (hlen : cs.length = 6) (h : TW enc Try.prog w base spare held 30 cs) : ∃ (nm : ByteArray) (ma lv un tx ht : Int), cs = [.string nm, .int .i64 ma, .int .i64 lv, .int .i64 un, .int .i64 tx, .int .i64 ht] ∧ i64B ma ∧ i64B lv ∧ i64B un ∧ i64B tx ∧ i64B ht := by
  obtain ⟨_, c0, hc0, ht0⟩ := tw_leaf 10 30 0 0 9 (by rw [lvSk]; simp) cs h
  obtain ⟨_, c1, hc1, ht1⟩ := tw_leaf 10 30 0 1 3 (by rw [lvSk]; simp) cs h
  obtain ⟨_, c2, hc2, ht2⟩ := tw_leaf 10 30 0 2 3 (by rw [lvSk]; simp) cs h
  obtain ⟨_, c3, hc3, ht3⟩ := tw_leaf 10 30 0 3 3 (by rw [lvSk]; simp) cs h
  obtain ⟨_, c4, hc4, ht4⟩ := tw_leaf 10 30 0 4 3 (by rw [lvSk]; simp) cs h
  obtain ⟨_, c5, hc5, ht5⟩ := tw_leaf 10 30 0 5 3 (by rw [lvSk]; simp) cs h
  obtain ⟨nm, rfl, hnm⟩ := tw_str Try.underlying9 ht0
  obtain ⟨x1, rfl, h1⟩ := tw_int Try.underlying3 ht1
  obtain ⟨x2, rfl, h2⟩ := tw_int Try.underlying3 ht2
  obtain ⟨x3, rfl, h3⟩ := tw_int Try.underlying3 ht3
  obtain ⟨x4, rfl, h4⟩ := tw_int Try.underlying3 ht4
  obtain ⟨x5, rfl, h5⟩ := tw_int Try.underlying3 ht5
  refine ⟨⟨nm.toArray⟩, x1, x2, x3, x4, x5, ext_k hlen rfl (fun i hi => ?_), h1, h2, h3, h4, h5⟩
  rcases (by omega : i = 0 ∨ i = 1 ∨ i = 2 ∨ i = 3 ∨ i = 4 ∨ i = 5) with rfl | rfl | rfl | rfl | rfl | rfl
  · simpa using hc0
  · simpa using hc1
  · simpa using hc2
  · simpa using hc3
  · simpa using hc4
  · simpa using hc5
theorem byTx : Try.prog.bytesOf 65 = 56 := by kernel_rfl
def TexI (t : TexD) : Prop := i64B t.W ∧ i64B t.H ∧ t.rows.length ≤ reachBytes
theorem open_Texs {c : Value} (h : TW enc Try.prog w base spare held 31 [c]) : ∃ (A : Option Addr) (k : Nat) (ts : List TexD), c = .slice A ts.length k ∧ ts.length ≤ reachBytes ∧ (∀ t ∈ ts, TexI t) ∧ XL w A ts := by
  obtain ⟨A, kk, ps, e, hl, hq, hr⟩ := tw_rowsF (β := TexD) (fun r q => ∃ B m, r = texW q B m ∧ TexI q ∧ IL w B q.rows) Try.underlying31 szTx byTx (by omega) (by omega) (fun r hr1 ht => by
    obtain ⟨nm, tw, th, A, k, rows, e, ⟨h1, h2⟩, h3, h4⟩ := open_Tex hr1 ht
    exact ⟨⟨nm, tw, th, rows⟩, A, k, e, ⟨h1, h2, h3⟩, h4⟩) h
  refine ⟨A, kk, ps, e, hl, fun q hq' => ?_, fun h0 => ?_⟩
  · obtain ⟨r, B, m, _, h2, _⟩ := hq q hq'
    exact h2
  · obtain ⟨b, off, e, hk, hc⟩ := hr h0
    refine ⟨b, off, e, hk, fun i hi => ?_⟩
    obtain ⟨r, ⟨B, m, rfl, _, h4⟩, h5⟩ := hc i hi
    exact ⟨B, m, h5, h4⟩
end
end Go.Proofs.Ytpaehkjnefgaiaa
