/- The map of keys that were seen. -/
import Derived.Maps.OwnOps
import Derived.Maps.OwnSet
import Derived.DeepKeys4
import Derived.Test.YtpaehkjnefgaiaaC16
namespace Go.Proofs.Ytpaehkjnefgaiaa
open Go.RowKit
set_option linter.unusedVariables false
set_option linter.unusedSimpArgs false
set_option linter.unnecessarySimpa false
set_option maxRecDepth 100000
theorem zeroBK (w : World) : (zeroValue 4).run Try.prog w = .ok (.bool false) w := by kernel_rfl
theorem wideK : (match Try.prog.underlying 59 with | some (.array _ _) | some (.struct _) => true | _ => false) = true := by kernel_rfl
theorem lawK : Maps.Keyed Try.prog 59 := Maps.Keyed.of_law (deep_law_laid (m := 2) (by kernel_rfl) (by omega) (of_decide_eq_true (by kernel_rfl)) (by kernel_rfl) wideK)
theorem keyTK : Try.prog.keyType 59 = true := by kernel_rfl
@[reducible] def valK (k : Ky) : Value := .agg #[.int .i64 k.1, .int .i64 k.2.1, .int .i64 k.2.2.1, .int .i64 k.2.2.2.1, .int .i64 k.2.2.2.2]
def litK (k : Ky) : Lit := .string (keyBytes [.int .i64 k.1, .int .i64 k.2.1, .int .i64 k.2.2.1, .int .i64 k.2.2.2.1, .int .i64 k.2.2.2.2])
def rngK (k : Ky) : Prop := i64W k.1 ∧ i64W k.2.1 ∧ i64W k.2.2.1 ∧ i64W k.2.2.2.1 ∧ i64W k.2.2.2.2
theorem keyK {k : Ky} (h : rngK k) : keyOf Try.prog 59 (valK k) = some (litK k) := by
  obtain ⟨h0, h1, h2, h3, h4⟩ := h
  have hw0 := h0.wf
  have hw1 := h1.wf
  have hw2 := h2.wf
  have hw3 := h3.wf
  have hw4 := h4.wf
  have hf : (valK k).formed Try.prog 59 = true := by
    unfold valK; simp only [Value.formed, Try.underlying59]; kernel_rfl
  obtain ⟨m, hm⟩ : ∃ m, Try.prog.types.size = m + 1 := ⟨Try.prog.types.size - 1, by kernel_rfl⟩
  have c1 : Try.prog.cellsOf 59 = 5 := by kernel_rfl
  have c2 : Try.prog.cellsOf 3 = 1 := by kernel_rfl
  unfold keyOf
  rw [Try.underlying59]
  simp only [keyTK, hf, Bool.and_self, if_true, hm]
  simp only [valK, Value.cells, Program.keyLits, Try.underlying59, c1, c2, Try.underlying3]
  simp [hw0, hw1, hw2, hw3, hw4, c2, Try.underlying3, Program.keyLits, litK, List.range_succ]
theorem injK {s u : Ky} (hs : rngK s) (hu : rngK u) (h : litK s = litK u) : s = u := by
  have h1 := keyK hs
  have h2 := keyK hu
  rw [h] at h1
  have := lawK.inj h1 h2
  simp only [valK, Value.agg.injEq] at this
  simp at this
  obtain ⟨e1, e2, e3, e4, e5⟩ := this
  exact Prod.ext e1 (Prod.ext e2 (Prod.ext e3 (Prod.ext e4 e5)))
structure KyD (D : DataW Unit) (L : List Ky) : Prop where
  rng : ∀ s ∈ L, rngK s
  abs : ∀ s, rngK s → s ∉ L → ∀ zd, D.atKey (litK s) zd = zd
def KyM (W : World) (B : Nat) (L : List Ky) : Prop := ∃ D : DataW Unit, W.ownsMap Try.prog 59 (plainElem Try.prog 4) B L.length D ∧ KyD D L
theorem KyM.made (W : World) : KyM (W.alloc (.map #[] 0)) W.heap.size [] := ⟨.map [], World.ownsMap_made _ _ _ _, by simp, fun s _ _ zd => by rfl⟩
theorem KyM.kept {W W' : World} {B : Nat} {L : List Ky} {row : Option Nat} (h : KyM W B L) (hg : W.grownBy W' row) (hne : some B ≠ row) : KyM W' B L := by
  obtain ⟨D, h1, h2⟩ := h; exact ⟨D, h1.kept hg hne, h2⟩
theorem KyM.lt {W : World} {B : Nat} {L : List Ky} (h : KyM W B L) : B < W.heap.size := by
  obtain ⟨D, h1, h2⟩ := h; exact h1.lt
theorem bool_inv {v : Value} {ps : List MemPlace} {x : Bool} (h : plainElem (H := Unit) Try.prog 4 v = some (.lit (.bool x), ps)) : v = .bool x := by
  unfold plainElem at h
  rw [Try.underlying4] at h
  cases v <;> simp_all
theorem KyM.look {W : World} {B : Nat} {L : List Ky} (h : KyM W B L) {s : Ky} (hs : rngK s) (hn : s ∉ L) : (Instr.lookup 57 (.map (some B)) (valK s) false).run Try.prog W = .ok (.bool false) W := by
  obtain ⟨D, ho, hd⟩ := h
  obtain ⟨v, ps, hrun, hat⟩ := ho.lookup lawK Try.underlying57 (zeroBK W) (plainElem_bool Try.underlying4 false) (keyK hs)
  rw [hd.abs s hs hn] at hat
  rw [hrun, bool_inv hat]
section
variable {ops : Array Oper} {rest : List Oper} {o : Oper} {a : Act} {Q : Exit → Act → World → Prop}
theorem wpL_put_ky (W : World) (hg : o.guard = none) (m x v : Operand) (hop : o.op = Op.mapUpdate 57 m x v) (B : Nat) (L : List Ky) (hm : a.eval m = .map (some B)) (h : KyM W B L) (s : Ky) (hx : a.eval x = valK s) (hv : a.eval v = .bool true)
    (hs : rngK s) (hlen : L.length < 1000000)
    (hK : ∀ W', KyM W' B (L ++ [s]) → W.grownBy W' (some B) → wpList Try.prog ops Q rest (a.put o.dst undef) W') : wpList Try.prog ops Q (o :: rest) a W := by
  obtain ⟨D, ho, hd⟩ := h
  refine wpList_mapUpdate_own W hg m x v _ hop 59 4 lawK Try.underlying57 (plainElem Try.prog 4) B L.length D hm ho (by unfold maxLen; omega) _ _ (litK s) hx hv (keyK hs) _ [] (plainElem_bool Try.underlying4 true) ?_
  intro W' h1 h2
  refine hK W' ⟨_, by simpa using h1, ?_, ?_⟩ h2
  · intro u hu
    rcases List.mem_append.1 hu with hu | hu
    · exact hd.rng u hu
    · obtain rfl := List.mem_singleton.1 hu; exact hs
  · intro u hu hun zd
    have e : u ≠ s := fun e => hun (by simp [e])
    rw [Maps.atKey_put_other (fun e2 => e (injK hu hs e2)), hd.abs u hu (fun h => hun (List.mem_append_left _ h))]
end
theorem keys_rng {P : Pch} {u h : Int} (f : Fine P u h) (hc : ∀ k, k < 4 → i64W (P.co k)) (tx : Int) (ts : List TexD) : ∀ k ∈ (meshF P 0 0 u h tx ts).ks, rngK k := fun k hk => by
  unfold meshF at hk
  simp only [List.mem_map] at hk
  obtain ⟨s, hs, rfl⟩ := hk
  have hm := f.most
  have h0 : i64W 0 := by unfold i64W; omega
  have h1 : i64W 1 := by unfold i64W; omega
  have h2 : i64W 2 := by unfold i64W; omega
  have h3 : i64W 3 := by unfold i64W; omega
  rcases spIn_of f.q hs with ⟨k, hk, rfl⟩ | ⟨k, i, hk, h4, h5, rfl⟩ | ⟨a, b, h4, h5, h6, h7, rfl⟩
  · rw [msK_cor]; exact ⟨h1, h0, hc k hk, h0, h0⟩
  · rw [msK_edg]
    have hq := f.q k hk
    have c1 := hc k hk
    have c2 := hc ((k + 1) % 4) (Nat.mod_lt _ (by omega))
    split
    · exact ⟨h2, h0, c2, c1, by unfold i64W; simp only; omega⟩
    · exact ⟨h2, h0, c1, c2, by unfold i64W; simp only; omega⟩
  · rw [msK_inn]
    exact ⟨h3, h0, by unfold i64W; simp only; omega, by unfold i64W; simp only; omega, h0⟩
theorem tris_two {r : Nat → Nat} (hr : ∀ k, k < 4 → 1 ≤ r k ∧ r k ≤ 16) : 2 ≤ (trisW r).length := by
  have b := most_bd hr
  have s0 := (hr 0 (by omega)).1
  have s1 := (hr 1 (by omega)).1
  have s2 := (hr 2 (by omega)).1
  have s3 := (hr 3 (by omega)).1
  by_cases e1 : mxR r 4 = 1
  · rw [trisW_one e1]
    exact Nat.le_refl _
  · rw [trisW_two (by omega)]
    omega
theorem mesh_tri {P : Pch} {u h : Int} (f : Fine P u h) (cage id tx : Int) (ts : List TexD) : ∀ t ∈ (meshF P cage id u h tx ts).ts, ∃ x y z : Nat, t = ((x : Int), (y : Int), (z : Int)) ∧ x ≠ y ∧ y ≠ z ∧ z ≠ x ∧ x < (meshF P cage id u h tx ts).vs.length ∧ y < (meshF P cage id u h tx ts).vs.length ∧ z < (meshF P cage id u h tx ts).vs.length := fun t ht => by
  have hl := (mesh_len f cage id tx ts).1
  unfold meshF at ht
  simp only [List.mem_map] at ht
  obtain ⟨t, ht, rfl⟩ := ht
  obtain ⟨h1, h2, h3, h4, h5, h6⟩ := tri_ne (okQ_r f.q) ht
  rw [hl]
  exact ⟨t.1, t.2.1, t.2.2, rfl, h1, h2, h3, h4, h5, h6⟩
theorem keys_new {P : Pch} {u h : Int} (f : Fine P u h) (hd : dist4 P.co) (tx : Int) (ts : List TexD) {k : Nat} (hk : k < (meshF P 0 0 u h tx ts).ks.length) : (meshF P 0 0 u h tx ts).ks[k] ∉ (meshF P 0 0 u h tx ts).ks.take k := fun hm => by
  have hn : (meshF P 0 0 u h tx ts).ks.Nodup := keys_nodup hd 0 0 f.q
  obtain ⟨j, hj, e⟩ := List.mem_iff_getElem.1 hm
  rw [List.length_take] at hj
  rw [List.getElem_take] at e
  exact List.pairwise_iff_getElem.1 hn j k (by omega) hk (by omega) e
end Go.Proofs.Ytpaehkjnefgaiaa
