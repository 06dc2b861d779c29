/- The map of package weave: the numbers of the spots. Package weave: the web as it grows. Package weave: one more spot, one more triangle. Package weave: one more triangle, two of a square. Package weave: two triangles of a square; a strip. Package weave: room for all of a web. -/
import Derived.Maps.OwnOps
import Derived.Maps.OwnSet
import Derived.DeepKeys4
import Derived.Maps.AppendAt
import Derived.OwnWalk
import Derived.Test.YtpaehkjnefgaiaaC1
namespace Go.Proofs.Ytpaehkjnefgaiaa
open Go.RowKit
set_option linter.unusedVariables false
set_option linter.unusedSimpArgs false
set_option linter.unnecessarySimpa false
set_option maxRecDepth 100000
def i64W (x : Int) : Prop := -9223372036854775808 ≤ x ∧ x ≤ 9223372036854775807
theorem i64W.wf {x : Int} (h : i64W x) : (Lit.int .i64 x).wf = true := by
  unfold i64W at h
  simp only [Lit.wf, IntKind.min, IntKind.max, IntKind.bits, IntKind.signed, Bool.and_eq_true, decide_eq_true_eq]
  simp
  omega
theorem zeroIW (w : World) : (zeroValue 3).run Try.prog w = .ok (.int .i64 0) w := by kernel_rfl
theorem wideS : (match Try.prog.underlying 79 with | some (.array _ _) | some (.struct _) => true | _ => false) = true := by kernel_rfl
theorem lawS : Maps.Keyed Try.prog 79 := Maps.Keyed.of_law (deep_law_laid (m := 2) (by kernel_rfl) (by omega) (of_decide_eq_true (by kernel_rfl)) (by kernel_rfl) wideS)
theorem keyTS : Try.prog.keyType 79 = true := by kernel_rfl
@[reducible] def valS (s : Spt) : Value := .agg #[.int .i64 s.1, .int .i64 s.2.1, .int .i64 s.2.2]
def litS (s : Spt) : Lit := .string (keyBytes [.int .i64 s.1, .int .i64 s.2.1, .int .i64 s.2.2])
def rngS (s : Spt) : Prop := i64W s.1 ∧ i64W s.2.1 ∧ i64W s.2.2
theorem keyS {s : Spt} (h : rngS s) : keyOf Try.prog 79 (valS s) = some (litS s) := by
  obtain ⟨h0, h1, h2⟩ := h
  have hw0 := h0.wf
  have hw1 := h1.wf
  have hw2 := h2.wf
  have hf : (valS s).formed Try.prog 79 = true := by
    unfold valS; simp only [Value.formed, Try.underlying79]; kernel_rfl
  obtain ⟨m, hm⟩ : ∃ m, Try.prog.types.size = m + 1 := ⟨Try.prog.types.size - 1, by kernel_rfl⟩
  have c1 : Try.prog.cellsOf 79 = 3 := by kernel_rfl
  have c2 : Try.prog.cellsOf 3 = 1 := by kernel_rfl
  unfold keyOf
  rw [Try.underlying79]
  simp only [keyTS, hf, Bool.and_self, if_true, hm]
  simp only [valS, Value.cells, Program.keyLits, Try.underlying79, c1, c2, Try.underlying3]
  simp [hw0, hw1, hw2, c2, Try.underlying3, Program.keyLits, litS, List.range_succ]
theorem injS {s u : Spt} (hs : rngS s) (hu : rngS u) (h : litS s = litS u) : s = u := by
  have h1 := keyS hs
  have h2 := keyS hu
  rw [h] at h1
  have := lawS.inj h1 h2
  simp only [valS, Value.agg.injEq] at this
  simp at this
  exact Prod.ext this.1 (Prod.ext this.2.1 this.2.2)
structure SpD (D : DataW Unit) (P : List Spt) : Prop where
  rng : ∀ s ∈ P, rngS s
  has : ∀ s, rngS s → s ∉ P → Maps.has D (litS s) = false
  val : ∀ s, s ∈ P → ∀ zd, D.atKey (litS s) zd = .lit (.int .i64 (nof P s : Int))
def SpM (W : World) (B : Nat) (P : List Spt) : Prop := ∃ D : DataW Unit, W.ownsMap Try.prog 79 (plainElem Try.prog 3) B P.length D ∧ SpD D P
theorem SpM.made (W : World) : SpM (W.alloc (.map #[] 0)) W.heap.size [] := ⟨.map [], World.ownsMap_made _ _ _ _, by simp, fun s _ _ => by simp [Maps.has], by simp⟩
theorem SpM.kept {W W' : World} {B : Nat} {P : List Spt} {row : Option Nat} (h : SpM W B P) (hg : W.grownBy W' row) (hne : some B ≠ row) : SpM W' B P := by
  obtain ⟨D, h1, h2⟩ := h; exact ⟨D, h1.kept hg hne, h2⟩
theorem SpM.lt {W : World} {B : Nat} {P : List Spt} (h : SpM W B P) : B < W.heap.size := by
  obtain ⟨D, h1, h2⟩ := h; exact h1.lt
theorem SpM.look {W : World} {B : Nat} {P : List Spt} (h : SpM W B P) {s : Spt} (hs : s ∈ P) (a : Act) (o : Oper) (m x : Operand) (hop : o.op = Op.lookup 111 m x false) (hm : a.eval m = .map (some B)) (hx : a.eval x = valS s) :
    (execOp a.eval o).run Try.prog W = .ok (.value (.int .i64 (nof P s : Int))) W := by
  obtain ⟨D, ho, hd⟩ := h
  obtain ⟨c, hrun, hat, hwc⟩ := ho.lookup_int lawS Try.underlying111 Try.underlying3 (zeroIW W) (keyS (hd.rng s hs))
  rw [hd.val s hs] at hat
  simp only [DataW.lit.injEq, Lit.int.injEq, true_and] at hat
  subst hat
  simp [execOp, hop, hm, hx, hrun, Result.andThen]
section
variable {ops : Array Oper} {rest : List Oper} {o : Oper} {a : Act} {Q : Exit → Act → World → Prop}
theorem wpL_put_sp (W : World) (hg : o.guard = none) (m x v : Operand) (hop : o.op = Op.mapUpdate 111 m x v) (B : Nat) (P : List Spt) (hm : a.eval m = .map (some B)) (h : SpM W B P) (s : Spt) (hx : a.eval x = valS s) (hv : a.eval v = .int .i64 (P.length : Int))
    (hs : rngS s) (hn : s ∉ P) (hlen : P.length < 1000000)
    (hK : ∀ W', SpM W' B (P ++ [s]) → W.grownBy W' (some B) → wpList Try.prog ops Q rest (a.put o.dst undef) W') : wpList Try.prog ops Q (o :: rest) a W := by
  obtain ⟨D, ho, hd⟩ := h
  have hq : i64W (P.length : Int) := by unfold i64W; omega
  refine wpList_mapUpdate_own W hg m x v _ hop 79 3 lawS Try.underlying111 (plainElem Try.prog 3) B P.length D hm ho (by unfold maxLen; omega) _ _ (litS s) hx hv (keyS hs) _ [] (plainElem_int Try.underlying3 hq.wf) ?_
  intro W' h1 h2
  refine hK W' ⟨_, by simpa using h1, ?_, ?_, ?_⟩ h2
  · intro u hu
    rcases List.mem_append.1 hu with hu | hu
    · exact hd.rng u hu
    · obtain rfl := List.mem_singleton.1 hu; exact hs
  · intro u hu hun
    have e : u ≠ s := fun e => hun (by simp [e])
    rw [Maps.has_put_other (fun e2 => e (injS hu hs e2)), hd.has u hu (fun h => hun (List.mem_append_left _ h))]
  · intro u hu zd
    by_cases e : u = s
    · subst e
      rw [Maps.atKey_put_same ho.isMap (lawS.key (keyS hs)), nof_snoc hn]
    · have hu2 : u ∈ P := by
        rcases List.mem_append.1 hu with hu | hu
        · exact hu
        · exact absurd (List.mem_singleton.1 hu) e
      rw [Maps.atKey_put_other (fun e2 => e (injS (hd.rng u hu2) hs e2)), hd.val u hu2, nof_app hu2]
end
end Go.Proofs.Ytpaehkjnefgaiaa
namespace Go.Proofs.Ytpaehkjnefgaiaa
open Go.RowKit
set_option linter.unusedVariables false
set_option linter.unusedSimpArgs false
set_option linter.unnecessarySimpa false
set_option maxRecDepth 100000
theorem setW_grown (W : World) (g i : Nat) (u : Value) : W.grownBy (W.setCell ⟨g, i, none⟩ u) (some g) := by
  refine ⟨rfl, rfl, rfl, by simp [World.setCell], fun k hk hne => ?_⟩
  simp only [World.setCell, Array.getElem?_modify]
  rw [if_neg (fun e => hne (by rw [e]))]
theorem ownW_form {W : World} {base : Nat} {e : TypeId} {size n : Nat} {v : Value} {xs : List Value} (h : W.ownsRow base e size v n xs) : ∃ A c, v = .slice A n c := by
  rcases h.2 with ⟨h1, h2⟩ | ⟨g, cap, cur, h1, _⟩
  · subst h2; exact ⟨none, 0, h1⟩
  · exact ⟨_, _, h1⟩
theorem ownW_lay {W W' : World} {base : Nat} {e : TypeId} {size n : Nat} {v : Value} {xs : List Value} (h : W.ownsRow base e size v n xs) (hb : Below W.heap.size W W') : W'.ownsRow base e size v n xs := by
  obtain ⟨h0, h | ⟨g, cap, cur, h1, h2, h3, h4⟩⟩ := h
  · exact ⟨h0, .inl h⟩
  · exact ⟨h0, .inr ⟨g, cap, cur, h1, h2, (hb.block g (Array.getElem?_eq_some_iff.1 h3).1).trans h3, h4⟩⟩
theorem ownW_block {W : World} {base : Nat} {e : TypeId} {size n : Nat} {v : Value} {xs : List Value} (h : W.ownsRow base e size v n xs) : ∀ k, v.ownBlock = some k → base ≤ k ∧ k < W.heap.size := by
  intro k hk
  rcases h.2 with ⟨rfl, _⟩ | ⟨g, cap, cur, rfl, h1, h2, _⟩
  · cases hk
  · cases hk; exact ⟨h1, (Array.getElem?_eq_some_iff.1 h2).1⟩
theorem ownW_set {W : World} {base : Nat} {T : TypeId} {sz n : Nat} {v : Value} {xs : List Value} (h : W.ownsRow base T sz v n xs) {g : Nat} (hne : g < base) (i : Nat) (u : Value) : (W.setCell ⟨g, i, none⟩ u).ownsRow base T sz v n xs := by
  obtain ⟨h0, h | ⟨g2, cap, cur, h1, h2, h3, h4⟩⟩ := h
  · exact ⟨h0, .inl h⟩
  · exact ⟨h0, .inr ⟨g2, cap, cur, h1, h2, ((setW_grown W g i u).block g2 (Array.getElem?_eq_some_iff.1 h3).1 (by intro e; cases e; omega)).trans h3, h4⟩⟩
/-- What a call keeps: the blocks that X names. -/
structure KX (X : Nat → Prop) (W W' : World) : Prop where
  os : W'.os = W.os
  tape : W'.tape = W.tape
  output : W'.output = W.output
  size : W.heap.size ≤ W'.heap.size
  block : ∀ b, X b → W'.heap[b]? = W.heap[b]?
theorem KX.refl (X : Nat → Prop) (W : World) : KX X W W := ⟨rfl, rfl, rfl, Nat.le_refl _, fun _ _ => rfl⟩
theorem KX.trans {X : Nat → Prop} {a b c : World} (h : KX X a b) (k : KX X b c) : KX X a c :=
  ⟨k.os.trans h.os, k.tape.trans h.tape, k.output.trans h.output, Nat.le_trans h.size k.size, fun i hi => (k.block i hi).trans (h.block i hi)⟩
theorem KX.of {X : Nat → Prop} {W W' : World} (hX : ∀ b, X b → b < W.heap.size) (hb : Below W.heap.size W W') : KX X W W' :=
  ⟨hb.os, hb.tape, hb.output, hb.size, fun b h => hb.block b (hX b h)⟩
theorem KX.grown {X : Nat → Prop} {W W' : World} {row : Option Nat} (hX : ∀ b, X b → b < W.heap.size ∧ some b ≠ row) (hb : W.grownBy W' row) : KX X W W' :=
  ⟨hb.os, hb.tape, hb.output, hb.size, fun b h => hb.block b (hX b h).1 (hX b h).2⟩
theorem KX.less {X Y : Nat → Prop} {W W' : World} (h : KX X W W') (hY : ∀ b, Y b → X b) : KX Y W W' := ⟨h.os, h.tape, h.output, h.size, fun b hb => h.block b (hY b hb)⟩
theorem KX.below {X : Nat → Prop} {W W' : World} (h : KX X W W') {n : Nat} (hX : ∀ b, b < n → X b) : Below n W W' := ⟨h.os, h.tape, h.output, h.size, fun b hb => h.block b (hX b hb)⟩
abbrev NTri := Nat × Nat × Nat
def spC (P : List Spt) : List Value := P.flatMap fun s => [.int .i64 s.1, .int .i64 s.2.1, .int .i64 s.2.2]
def trC (T : List NTri) : List Value := T.flatMap fun t => [.int .i64 (t.1 : Int), .int .i64 (t.2.1 : Int), .int .i64 (t.2.2 : Int)]
theorem spC_snoc (P : List Spt) (s : Spt) : spC (P ++ [s]) = spC P ++ [.int .i64 s.1, .int .i64 s.2.1, .int .i64 s.2.2] := by simp [spC, List.flatMap_append]
theorem trC_snoc (T : List NTri) (t : NTri) : trC (T ++ [t]) = trC T ++ [.int .i64 (t.1 : Int), .int .i64 (t.2.1 : Int), .int .i64 (t.2.2 : Int)] := by simp [trC, List.flatMap_append]
@[reducible] def webC (r : Nat → Nat) (R B : Nat) (sv tv : Value) : Array Value := #[.int .i64 0, .int .i64 (r 0 : Int), .int .i64 1, .int .i64 (r 1 : Int), .int .i64 2, .int .i64 (r 2 : Int), .int .i64 3, .int .i64 (r 3 : Int), .int .i64 (R : Int), sv, .map (some B), tv]
structure WebB (W : World) (base g B : Nat) (r : Nat → Nat) (R : Nat) (Pm P : List Spt) (T : List NTri) (sv tv : Value) (X : Nat → Prop) : Prop where
  blk : Blk W g 113 (webC r R B sv tv)
  gl : g < base
  Bl : B < base
  gB : B ≠ g
  le : base ≤ W.heap.size
  sp : W.ownsRow base 79 3 sv P.length (spC P)
  tr : W.ownsRow base 60 3 tv T.length (trC T)
  ap : ∀ k, sv.ownBlock = some k → tv.ownBlock ≠ some k
  mp : SpM W B Pm
  x : ∀ b, X b → b < W.heap.size ∧ b ≠ g ∧ b ≠ B ∧ sv.ownBlock ≠ some b ∧ tv.ownBlock ≠ some b
theorem WebB.below {W W' : World} {base g B : Nat} {r : Nat → Nat} {R : Nat} {Pm P : List Spt} {T : List NTri} {sv tv : Value} {X : Nat → Prop} (h : WebB W base g B r R Pm P T sv tv X) (hb : Below W.heap.size W W') : WebB W' base g B r R Pm P T sv tv X ∧ KX X W W' :=
  ⟨⟨h.blk.below hb, h.gl, h.Bl, h.gB, Nat.le_trans h.le hb.size, ownW_lay h.sp hb, ownW_lay h.tr hb, h.ap, h.mp.kept (row := none) ⟨hb.os, hb.tape, hb.output, hb.size, fun k hk _ => hb.block k hk⟩ (by simp), fun b hx => ⟨Nat.lt_of_lt_of_le (h.x b hx).1 hb.size, (h.x b hx).2⟩⟩, KX.of (fun b hx => (h.x b hx).1) hb⟩
/-- Blocks that came later than the web's are kept as well. -/
theorem WebB.more {W : World} {base g B : Nat} {r : Nat → Nat} {R : Nat} {Pm P : List Spt} {T : List NTri} {sv tv : Value} {X : Nat → Prop} (h : WebB W base g B r R Pm P T sv tv X) (o : Obj) : WebB (W.alloc o) base g B r R Pm P T sv tv (fun b => X b ∨ b = W.heap.size) := by
  obtain ⟨h1, h2⟩ := h.below (bel_alloc (Below.refl _ _) o)
  refine ⟨h1.blk, h1.gl, h1.Bl, h1.gB, h1.le, h1.sp, h1.tr, h1.ap, h1.mp, fun b hx => ?_⟩
  rcases hx with hx | rfl
  · exact h1.x b hx
  · have h3 := h.gl
    have h4 := h.Bl
    have h5 := h.le
    refine ⟨by rw [World.size_alloc]; omega, by omega, by omega, fun e => ?_, fun e => ?_⟩
    · have := (ownW_block h.sp _ e).2; omega
    · have := (ownW_block h.tr _ e).2; omega
theorem WebB.less {W : World} {base g B : Nat} {r : Nat → Nat} {R : Nat} {Pm P : List Spt} {T : List NTri} {sv tv : Value} {X Y : Nat → Prop} (h : WebB W base g B r R Pm P T sv tv X) (hY : ∀ b, Y b → X b) : WebB W base g B r R Pm P T sv tv Y :=
  ⟨h.blk, h.gl, h.Bl, h.gB, h.le, h.sp, h.tr, h.ap, h.mp, fun b hb => h.x b (hY b hb)⟩
theorem WebB.map {W W' : World} {base g B : Nat} {r : Nat → Nat} {R : Nat} {Pm Pm' P : List Spt} {T : List NTri} {sv tv : Value} {X : Nat → Prop} (h : WebB W base g B r R Pm P T sv tv X) (hg : W.grownBy W' (some B)) (hm : SpM W' B Pm') : WebB W' base g B r R Pm' P T sv tv X ∧ KX X W W' := by
  have h3 := h.Bl
  have ho : ∀ v, (∃ e n xs, W.ownsRow base e 3 v n xs) → v.ownBlock = none ∨ v.ownBlock ≠ some B := fun v ⟨e, n, xs, hw⟩ => by
    cases hv : v.ownBlock with
    | none => exact .inl rfl
    | some j =>
      right; intro e2; cases e2
      have := (ownW_block hw _ hv).1; omega
  refine ⟨⟨(hg.block g h.blk.lt (by intro e; cases e; exact h.gB rfl)).trans h.blk, h.gl, h.Bl, h.gB, Nat.le_trans h.le hg.size, h.sp.kept hg (ho sv ⟨_, _, _, h.sp⟩), h.tr.kept hg (ho tv ⟨_, _, _, h.tr⟩), h.ap, hm, fun b hx => ⟨Nat.lt_of_lt_of_le (h.x b hx).1 hg.size, (h.x b hx).2⟩⟩, KX.grown (fun b hx => ⟨(h.x b hx).1, fun e => (h.x b hx).2.2.1 (by cases e; rfl)⟩) hg⟩
theorem infoS3 : (Try.prog.info? 79).map (·.size) = some 3 := by kernel_rfl
theorem infoSp : (Try.prog.info? 79).map (fun i => (i.zero, i.size, i.bytes)) = some (some (.agg #[.int .i64 0, .int .i64 0, .int .i64 0]), 3, 24) := by kernel_rfl
theorem infoTr : (Try.prog.info? 60).map (fun i => (i.zero, i.size, i.bytes)) = some (some (.agg #[.int .i64 0, .int .i64 0, .int .i64 0]), 3, 24) := by kernel_rfl
theorem info_ofW {t : TypeId} {z : Value} {s b : Nat} (h : (Try.prog.info? t).map (fun i => (i.zero, i.size, i.bytes)) = some (some z, s, b)) : ∃ i : TypeInfo, Try.prog.info? t = some i ∧ i.zero = some z ∧ i.size = s ∧ i.bytes = b := by
  cases e : Try.prog.info? t with
  | none => rw [e] at h; cases h
  | some i =>
    rw [e] at h
    simp only [Option.map_some, Option.some.injEq, Prod.mk.injEq] at h
    exact ⟨i, rfl, h.1, h.2.1, h.2.2⟩
/-- One more of three numbers in a row of one's own. -/
theorem app3 {T TS : TypeId} (hT : Try.prog.underlying TS = some (.slice T)) (hI : (Try.prog.info? T).map (fun i => (i.zero, i.size, i.bytes)) = some (some (.agg #[.int .i64 0, .int .i64 0, .int .i64 0]), 3, 24)) {W : World} {base n : Nat} {v : Value} {xs : List Value} (h : W.ownsRow base T 3 v n xs) (hn : n < 1000000) (hle : base ≤ W.heap.size) (x y z : Int) (ty : TypeId) :
    ∃ v' u2, (Builtin.append_ #[TS, TS] ty #[v, .slice (some ⟨W.heap.size, 0, none⟩) 1 1]).run Try.prog (W.alloc (.cells #[.int .i64 x, .int .i64 y, .int .i64 z] T)) = .ok v' u2 ∧ u2.ownsRow base T 3 v' (n + 1) (xs ++ [.int .i64 x, .int .i64 y, .int .i64 z]) ∧ (W.alloc (.cells #[.int .i64 x, .int .i64 y, .int .i64 z] T)).grownBy u2 v.ownBlock ∧ (v'.ownBlock = v.ownBlock ∨ v'.ownBlock = some (W.heap.size + 1)) := by
  obtain ⟨i0, hi0, hz0, hz1, hz2⟩ := info_ofW hI
  have hb1 : Below W.heap.size W (W.alloc (.cells #[.int .i64 x, .int .i64 y, .int .i64 z] T)) := bel_alloc (Below.refl _ _) _
  have hN := Blk.new W T #[.int .i64 x, .int .i64 y, .int .i64 z] _ rfl
  obtain ⟨v', u2, hr, h1, h2, h3, h4⟩ := run_append_own_at (P := Try.prog) (w := W.alloc (.cells #[.int .i64 x, .int .i64 y, .int .i64 z] T)) base TS ty T i0 _ 3 24 hT hi0 hz0 hz1 hz2 rfl (by omega) v n xs (ownW_lay h hb1) ⟨W.heap.size, 0, none⟩ 1 1 [.int .i64 x, .int .i64 y, .int .i64 z] rfl
    (fun j u hj => by
      have e : ((⟨W.heap.size, 0, none⟩ : Addr).add j) = ⟨W.heap.size, j, none⟩ := by simp [Addr.add]; intro h; exact h.symm
      rw [e, hN.cell]
      simpa using hj) (by intro u hu; simp at hu; rcases hu with rfl | rfl | rfl <;> rfl) (by unfold maxLen; omega) (by omega) (Nat.le_trans hle hb1.size)
  rw [World.size_alloc] at h4
  exact ⟨v', u2, hr, h1, h2, h4⟩
/-- One more spot in the row of spots. -/
theorem WebB.addS {W : World} {base g B : Nat} {r : Nat → Nat} {R : Nat} {Pm P : List Spt} {T : List NTri} {sv tv : Value} {X : Nat → Prop} (h : WebB W base g B r R Pm P T sv tv X) (s : Spt) (hn : P.length < 1000000) (ty : TypeId) :
    ∃ v' u2, (Builtin.append_ #[73, 73] ty #[sv, .slice (some ⟨W.heap.size, 0, none⟩) 1 1]).run Try.prog (W.alloc (.cells #[.int .i64 s.1, .int .i64 s.2.1, .int .i64 s.2.2] 79)) = .ok v' u2 ∧
      W.heap.size ≤ u2.heap.size ∧ u2.heap[g]? = W.heap[g]? ∧ (∀ b, X b → u2.heap[b]? = W.heap[b]?) ∧
      WebB (u2.setCell ⟨g, 9, none⟩ v') base g B r R Pm (P ++ [s]) T v' tv X ∧ KX X W (u2.setCell ⟨g, 9, none⟩ v') := by
  obtain ⟨v', u2, hr, h1, h2, h3⟩ := app3 Try.underlying73 infoSp h.sp hn h.le s.1 s.2.1 s.2.2 ty
  obtain ⟨hw, hk⟩ := h.below (bel_alloc (Below.refl _ _) (.cells #[.int .i64 s.1, .int .i64 s.2.1, .int .i64 s.2.2] 79))
  have hl := h.le
  have hgl := h.gl
  have hBl := h.Bl
  have hsz := World.size_alloc W (.cells #[.int .i64 s.1, .int .i64 s.2.1, .int .i64 s.2.2] 79)
  generalize W.alloc (.cells #[.int .i64 s.1, .int .i64 s.2.1, .int .i64 s.2.2] 79) = W1 at *
  have hgne : some g ≠ sv.ownBlock := fun e => by have := (ownW_block h.sp _ e.symm).1; omega
  have hBne : some B ≠ sv.ownBlock := fun e => by have := (ownW_block h.sp _ e.symm).1; omega
  have hg2 : u2.heap[g]? = W1.heap[g]? := h2.block g hw.blk.lt hgne
  have hX2 : ∀ b, X b → u2.heap[b]? = W1.heap[b]? := fun b hb => h2.block b (hw.x b hb).1 (fun e => (hw.x b hb).2.2.2.1 e.symm)
  have hXl : ∀ b, X b → b < W.heap.size := fun b hb => (h.x b hb).1
  have hset := setW_grown u2 g 9 v'
  have hblk : Blk u2 g 113 (webC r R B sv tv) := hg2.trans hw.blk
  have hv' : ∀ b, b < W.heap.size → sv.ownBlock ≠ some b → v'.ownBlock ≠ some b := fun b hb hs => by
    rcases h3 with h3 | h3
    · rw [h3]; exact hs
    · rw [h3]; intro e; cases e; omega
  refine ⟨v', u2, hr, by have := h2.size; omega, hg2.trans ?_, fun b hb => (hX2 b hb).trans (hk.block b hb), ⟨?_, h.gl, h.Bl, h.gB, ?_, ?_, ?_, ?_, ?_, ?_⟩, ?_⟩
  · exact hw.blk.trans h.blk.symm
  · exact hblk.set 9 v'
  · have := hset.size; have := h2.size; omega
  · rw [spC_snoc, List.length_append, List.length_singleton]
    exact ownW_set h1 h.gl _ _
  · refine ownW_set (hw.tr.kept h2 ?_) h.gl _ _
    cases e : tv.ownBlock with
    | none => exact .inl rfl
    | some k => right; intro e2; exact hw.ap k e2.symm e
  · intro k e1 e2
    have hk2 := (ownW_block h.tr k e2).2
    exact hv' k hk2 (fun e3 => h.ap k e3 e2) e1
  · exact (hw.mp.kept h2 hBne).kept hset (by intro e; cases e; exact h.gB rfl)
  · intro b hb
    obtain ⟨x1, x2, x3, x4, x5⟩ := h.x b hb
    refine ⟨?_, x2, x3, hv' b x1 x4, x5⟩
    have := hset.size; have := h2.size; omega
  · refine ⟨by rw [hset.os, h2.os, hk.os], by rw [hset.tape, h2.tape, hk.tape], by rw [hset.output, h2.output, hk.output], ?_, fun b hb => ?_⟩
    · have := hset.size; have := h2.size; omega
    · rw [hset.block b (by have := (h.x b hb).1; have := h2.size; omega) (fun e => (h.x b hb).2.1 (by cases e; rfl)), hX2 b hb, hk.block b hb]
/-- One more triangle in the row of triangles. -/
theorem WebB.addT {W : World} {base g B : Nat} {r : Nat → Nat} {R : Nat} {Pm P : List Spt} {T : List NTri} {sv tv : Value} {X : Nat → Prop} (h : WebB W base g B r R Pm P T sv tv X) (t : NTri) (hn : T.length < 1000000) (ty : TypeId) :
    ∃ v' u2, (Builtin.append_ #[36, 36] ty #[tv, .slice (some ⟨W.heap.size, 0, none⟩) 1 1]).run Try.prog (W.alloc (.cells #[.int .i64 (t.1 : Int), .int .i64 (t.2.1 : Int), .int .i64 (t.2.2 : Int)] 60)) = .ok v' u2 ∧
      W.heap.size ≤ u2.heap.size ∧ u2.heap[g]? = W.heap[g]? ∧ (∀ b, X b → u2.heap[b]? = W.heap[b]?) ∧ SpM u2 B Pm ∧
      WebB (u2.setCell ⟨g, 11, none⟩ v') base g B r R Pm P (T ++ [t]) sv v' X ∧ KX X W (u2.setCell ⟨g, 11, none⟩ v') := by
  obtain ⟨v', u2, hr, h1, h2, h3⟩ := app3 Try.underlying36 infoTr h.tr hn h.le (t.1 : Int) (t.2.1 : Int) (t.2.2 : Int) ty
  obtain ⟨hw, hk⟩ := h.below (bel_alloc (Below.refl _ _) (.cells #[.int .i64 (t.1 : Int), .int .i64 (t.2.1 : Int), .int .i64 (t.2.2 : Int)] 60))
  have hl := h.le
  have hgl := h.gl
  have hBl := h.Bl
  have hsz := World.size_alloc W (.cells #[.int .i64 (t.1 : Int), .int .i64 (t.2.1 : Int), .int .i64 (t.2.2 : Int)] 60)
  generalize W.alloc (.cells #[.int .i64 (t.1 : Int), .int .i64 (t.2.1 : Int), .int .i64 (t.2.2 : Int)] 60) = W1 at *
  have hgne : some g ≠ tv.ownBlock := fun e => by have := (ownW_block h.tr _ e.symm).1; omega
  have hBne : some B ≠ tv.ownBlock := fun e => by have := (ownW_block h.tr _ e.symm).1; omega
  have hg2 : u2.heap[g]? = W1.heap[g]? := h2.block g hw.blk.lt hgne
  have hX2 : ∀ b, X b → u2.heap[b]? = W1.heap[b]? := fun b hb => h2.block b (hw.x b hb).1 (fun e => (hw.x b hb).2.2.2.2 e.symm)
  have hset := setW_grown u2 g 11 v'
  have hblk : Blk u2 g 113 (webC r R B sv tv) := hg2.trans hw.blk
  have hv' : ∀ b, b < W.heap.size → tv.ownBlock ≠ some b → v'.ownBlock ≠ some b := fun b hb hs => by
    rcases h3 with h3 | h3
    · rw [h3]; exact hs
    · rw [h3]; intro e; cases e; omega
  refine ⟨v', u2, hr, by have := h2.size; omega, hg2.trans ?_, fun b hb => (hX2 b hb).trans (hk.block b hb), hw.mp.kept h2 hBne, ⟨?_, h.gl, h.Bl, h.gB, ?_, ?_, ?_, ?_, ?_, ?_⟩, ?_⟩
  · exact hw.blk.trans h.blk.symm
  · exact hblk.set 11 v'
  · have := hset.size; have := h2.size; omega
  · refine ownW_set (hw.sp.kept h2 ?_) h.gl _ _
    cases e : sv.ownBlock with
    | none => exact .inl rfl
    | some k => right; intro e2; exact hw.ap k e e2.symm
  · rw [trC_snoc, List.length_append, List.length_singleton]
    exact ownW_set h1 h.gl _ _
  · intro k e1 e2
    have hk2 := (ownW_block h.sp k e1).2
    exact hv' k hk2 (h.ap k e1) e2
  · exact (hw.mp.kept h2 hBne).kept hset (by intro e; cases e; exact h.gB rfl)
  · intro b hb
    obtain ⟨x1, x2, x3, x4, x5⟩ := h.x b hb
    refine ⟨?_, x2, x3, x4, hv' b x1 x5⟩
    have := hset.size; have := h2.size; omega
  · refine ⟨by rw [hset.os, h2.os, hk.os], by rw [hset.tape, h2.tape, hk.tape], by rw [hset.output, h2.output, hk.output], ?_, fun b hb => ?_⟩
    · have := hset.size; have := h2.size; omega
    · rw [hset.block b (by have := (h.x b hb).1; have := h2.size; omega) (fun e => (h.x b hb).2.1 (by cases e; rfl)), hX2 b hb, hk.block b hb]
end Go.Proofs.Ytpaehkjnefgaiaa
namespace Go.Proofs.Ytpaehkjnefgaiaa
open Go.RowKit
set_option linter.unusedVariables false
set_option linter.unusedSimpArgs false
set_option linter.unnecessarySimpa false
set_option maxRecDepth 100000
set_option maxHeartbeats 2000000 in
theorem spot_any (W : World) (base g B : Nat) (r : Nat → Nat) (R : Nat) (P : List Spt) (T : List NTri) (sv tv : Value) (X : Nat → Prop) (h : WebB W base g B r R P P T sv tv X) (s : Spt) (hs : rngS s) (hn : s ∉ P) (hl : P.length < 100000) :
    Calls Try.prog 77 #[.pointer (some ⟨g, 0, none⟩), sV s] W fun e W' => e = .returned (.tuple #[]) ∧ KX X W W' ∧ ∃ sv', WebB W' base g B r R (P ++ [s]) (P ++ [s]) T sv' tv X := by
  have h1 := h.more (.cells #[.int .i64 s.1, .int .i64 s.2.1, .int .i64 s.2.2] 79)
  have hk1 := (h.below (bel_alloc (Below.refl _ _) (.cells #[.int .i64 s.1, .int .i64 s.2.1, .int .i64 s.2.2] 79))).2
  have hD := Blk.new W 79 #[.int .i64 s.1, .int .i64 s.2.1, .int .i64 s.2.2] _ rfl
  have hn2 := Lib.hid hn
  have hs2 := Lib.hid hs
  clear hn hs
  obtain ⟨As, cs, rfl⟩ := ownW_form h.sp
  clear h
  go_enter Try.func77, Try.ntmps77
  go_upto_region 1 with (fail)
  obtain ⟨b3, hb3⟩ : ∃ b3, W.heap.size = b3 := ⟨_, rfl⟩
  simp only [hb3] at *
  generalize W.alloc (.cells #[.int .i64 s.1, .int .i64 s.2.1, .int .i64 s.2.2] 79) = W1 at *
  have n10 : W1.cell? ⟨g, 10, none⟩ = some (.map (some B)) := h1.blk.cell 10
  have n9 : W1.cell? ⟨g, 9, none⟩ = some (.slice As P.length cs) := h1.blk.cell 9
  have d0 : W1.cell? ⟨b3, 0, none⟩ = some (.int .i64 s.1) := hD.cell 0
  have d1 : W1.cell? ⟨b3, 1, none⟩ = some (.int .i64 s.2.1) := hD.cell 1
  have d2 : W1.cell? ⟨b3, 2, none⟩ = some (.int .i64 s.2.2) := hD.cell 2
  have lg := h1.blk.lt
  have lb := hD.lt
  refine wp_region_tail 10 ?_ (by kernel_rfl) (by kernel_rfl) (by kernel_rfl) (fun x => ?_) (fun x => ?_)
  rotate_left
  · simp only [List.take_succ_cons, List.take_zero]
    repeat (go_big_quiet_step (((fail))))
    refine wpQuiet_nil ?_
    exact rfl
  simp only [List.drop_succ_cons, List.drop_zero]
  try simp only [Act.put, List.setIfInBounds_toArray, List.set_cons_succ, List.set_cons_zero]
  obtain ⟨hx1, kx1⟩ := h1.below (x.kept W1)
  have hDx := hD.below (x.kept W1)
  refine wpL_put_sp (grow W1 x) rfl _ _ _ rfl B P rfl hx1.mp s rfl rfl hs2.out hn2.out (by omega) ?_
  intro w2 hm2 hg2
  obtain ⟨hW2, kx2⟩ := hx1.map hg2 hm2
  have hD2 : Blk w2 b3 79 #[.int .i64 s.1, .int .i64 s.2.1, .int .i64 s.2.2] := (kx2.block b3 (.inr rfl)).trans hDx
  have kW2 : KX X W w2 := hk1.trans ((kx1.trans kx2).less fun b hb => .inl hb)
  clear hm2 hg2 kx1 kx2 hx1 hDx h1 hD hk1 n10 n9 d0 d1 d2 lg lb
  go_upto_region 2 with (fail)
  obtain ⟨v1, u2, hr, hsz, hgk, hXk, hF, kF⟩ := (show WebB w2.drew base g B r R (P ++ [s]) P T (.slice As P.length cs) tv (fun b => X b ∨ b = b3) from ⟨hW2.blk, hW2.gl, hW2.Bl, hW2.gB, hW2.le, hW2.sp, hW2.tr, hW2.ap, hW2.mp, hW2.x⟩).addS s (by omega) 73
  obtain ⟨A1, n1, c1, rfl⟩ : ∃ A n c, v1 = .slice A n c := by obtain ⟨A, c, e⟩ := ownW_form hF.sp; exact ⟨A, _, c, e⟩
  have hK : ∀ u, (u = w2.drew ∨ u = (w2.drew.alloc (.cells #[.int .i64 s.1, .int .i64 s.2.1, .int .i64 s.2.2] 79)) ∨ u = u2) → (∀ j v, w2.cell? ⟨g, j, none⟩ = some v → u.cell? ⟨g, j, none⟩ = some v) ∧ (∀ j v, w2.cell? ⟨b3, j, none⟩ = some v → u.cell? ⟨b3, j, none⟩ = some v) := by
    have lg := hW2.blk.lt
    have lb := hD2.lt
    rintro u (rfl | rfl | rfl)
    · exact ⟨fun j v h => h, fun j v h => h⟩
    · have hba : Below (w2.drew).heap.size (w2.drew) (w2.drew.alloc (.cells #[.int .i64 s.1, .int .i64 s.2.1, .int .i64 s.2.2] 79)) := bel_alloc (Below.refl _ _) _
      exact ⟨fun j v h => (hba.cell (p := ⟨g, j, none⟩) lg).trans h, fun j v h => (hba.cell (p := ⟨b3, j, none⟩) lb).trans h⟩
    · exact ⟨fun j v h => (World.cell?_of_block hgk).trans h, fun j v h => (World.cell?_of_block (hXk b3 (.inr rfl))).trans h⟩
  have n9 : w2.cell? ⟨g, 9, none⟩ = some (.slice As P.length cs) := hW2.blk.cell 9
  have d0 : w2.cell? ⟨b3, 0, none⟩ = some (.int .i64 s.1) := hD2.cell 0
  have d1 : w2.cell? ⟨b3, 1, none⟩ = some (.int .i64 s.2.1) := hD2.cell 1
  have d2 : w2.cell? ⟨b3, 2, none⟩ = some (.int .i64 s.2.2) := hD2.cell 2
  refine wp_region_monoK 10 (RKW [.pointer (some ⟨g, 0, none⟩), .pointer (some ⟨g, 0, none⟩), .pointer (some ⟨g, 0, none⟩), .pointer (some ⟨g, 9, none⟩), .slice As P.length cs, .agg #[.int .i64 s.1, .int .i64 s.2.1, .int .i64 s.2.2], .slice (some ⟨w2.drew.heap.size, 0, none⟩) 1 1, .slice A1 n1 c1, .pointer (some ⟨g, 0, none⟩), .pointer (some ⟨g, 9, none⟩)]) (PhJ 6 7 w2.drew (w2.drew.alloc (.cells #[.int .i64 s.1, .int .i64 s.2.1, .int .i64 s.2.2] 79)) u2) (by kernel_rfl) _ rfl (by kernel_rfl) (by kernel_rfl) (by kernel_rfl) (by kernel_rfl) (by kernel_rfl) ⟨by decide, by decide, fun h => by simp [Array.getD] at h, rfl⟩ ?_ ?_
  · simp only [List.take_succ_cons, List.take_zero]
    refine ⟨?_, ?_, ?_, ?_, ?_, ?_, ?_, ?_, ?_, ?_, ?_⟩
    · refine mono_read rfl (by decide) (by decide) (fun a u hu hk hp => ?_)
      have es0 := (hk 0 (keep_of (by kernel_rfl))).trans (show _ = some (.pointer (some ⟨g, 0, none⟩)) from rfl)
      exact ⟨_, by simp [execOp, go_sem, es0], rfl⟩
    · refine mono_read rfl (by decide) (by decide) (fun a u hu hk hp => ?_)
      have es0 := (hk 0 (keep_of (by kernel_rfl))).trans (show _ = some (.pointer (some ⟨g, 0, none⟩)) from rfl)
      exact ⟨_, by simp [execOp, go_sem, es0], rfl⟩
    · refine mono_read rfl (by decide) (by decide) (fun a u hu hk hp => ?_)
      obtain ⟨x1, ex1, rx1⟩ := hp ⟨1, .data⟩ (by simp) rfl _ _ rfl rfl
      obtain rfl : x1 = _ := rx1
      exact ⟨_, by simp [execOp, go_sem, ex1], rfl⟩
    · refine mono_read rfl (by decide) (by decide) (fun a u hu hk hp => ?_)
      obtain ⟨x2, ex2, rx2⟩ := hp ⟨2, .data⟩ (by simp) rfl _ _ rfl rfl
      obtain rfl : x2 = _ := rx2
      exact ⟨_, by simp [execOp, go_sem, ex2], rfl⟩
    · refine mono_read rfl (by decide) (by decide) (fun a u hu hk hp => ?_)
      obtain ⟨x3, ex3, rx3⟩ := hp ⟨3, .data⟩ (by simp) rfl _ _ rfl rfl
      obtain rfl : x3 = _ := rx3
      have fc0 := (hK u hu).1 9 _ n9
      exact ⟨_, by simp [execOp, go_sem, ex3, fc0], rfl⟩
    · refine mono_read rfl (by decide) (by decide) (fun a u hu hk hp => ?_)
      have es3 := (hk 3 (keep_of (by kernel_rfl))).trans (show _ = some (.pointer (some ⟨b3, 0, none⟩)) from rfl)
      have fc0 := (hK u hu).2 0 _ d0
      have fc1 := (hK u hu).2 1 _ d1
      have fc2 := (hK u hu).2 2 _ d2
      exact ⟨_, ldmW_run _ _ _ 79 _ rfl (b3) (0) (eval_tmp es3) _ _ (rng3W fc0 fc1 fc2) Try.underlying79 rfl infoS3, rfl⟩
    · refine mono_first rfl (by decide) (fun a hk hp => ?_)
      obtain ⟨x5, ex5, rx5⟩ := hp ⟨5, .data⟩ (by simp) rfl _ _ rfl rfl
      obtain rfl : x5 = _ := rx5
      exact ⟨_, by simp [execOp, go_sem, ex5], rfl⟩
    · refine mono_second rfl (by decide) ⟨⟨6, .data⟩, by simp, rfl, rfl⟩ (fun a hk hp => ?_)
      obtain ⟨x4, ex4, rx4⟩ := hp ⟨4, .data⟩ (by simp) rfl _ _ rfl rfl
      obtain rfl : x4 = _ := rx4
      obtain ⟨x6, ex6, rx6⟩ := hp ⟨6, .data⟩ (by simp) rfl _ _ rfl rfl
      obtain rfl : x6 = _ := rx6
      exact ⟨_, run_appW _ _ _ rfl (eval_tmp ex4) (eval_tmp ex6) hr, rfl⟩
    · refine mono_read rfl (by decide) (by decide) (fun a u hu hk hp => ?_)
      obtain ⟨x0, ex0, rx0⟩ := hp ⟨0, .data⟩ (by simp) rfl _ _ rfl rfl
      obtain rfl : x0 = _ := rx0
      exact ⟨_, by simp [execOp, go_sem, ex0], rfl⟩
    · refine mono_read rfl (by decide) (by decide) (fun a u hu hk hp => ?_)
      obtain ⟨x8, ex8, rx8⟩ := hp ⟨8, .data⟩ (by simp) rfl _ _ rfl rfl
      obtain rfl : x8 = _ := rx8
      exact ⟨_, by simp [execOp, go_sem, ex8], rfl⟩
    · trivial
  · intro a wz listed hJ hall hsz hdf hk hgot
    have hwz : u2 = wz := (phJ_end hJ (by decide) hall).symm
    clear hJ
    subst hwz
    obtain ⟨vv7, ev7, rv7⟩ := hgot 7 _ 21 rfl rfl
    obtain rfl : vv7 = _ := rv7
    obtain ⟨vv9, ev9, rv9⟩ := hgot 9 _ 23 rfl rfl
    obtain rfl : vv9 = _ := rv9
    obtain ⟨f, hf, rfl⟩ := frame_eq hsz hdf hk [14, 15, 16, 17, 18, 19, 20, 21, 22, 23] (by rfl)
    have f21 := hf 21 _ ev7
    have f23 := hf 23 _ ev9
    clear hsz hdf hk hgot hf hall ev7 ev9
    simp only [List.drop_succ_cons, List.drop_zero, setAll, List.setIfInBounds_toArray, List.set_cons_succ, List.set_cons_zero, f21, f23]
    clear f21 f23
    generalize f 14 = uu14; generalize f 15 = uu15; generalize f 16 = uu16; generalize f 17 = uu17; generalize f 18 = uu18; generalize f 19 = uu19; generalize f 20 = uu20; generalize f 22 = uu22
    have s0 : u2.cell? ⟨g, 9, none⟩ = some (.slice As P.length cs) := (hK u2 (.inr (.inr rfl))).1 9 _ n9
    have sf : u2.frozen? ⟨g, 9, none⟩ = false := (World.frozen?_of_block hgk).trans (hW2.blk.frozen 9)
    have sl : g < u2.heap.size := Nat.lt_of_lt_of_le hW2.blk.lt hsz
    clear hW2 hD2 hsz hgk hXk hr hK n9 d0 d1 d2
    replace hF := Lib.hid hF
    replace kF := Lib.hid kF
    replace kW2 := Lib.hid kW2
    go_wp2
    refine bodyPost_end (v := .tuple #[]) (by simp [results, Try.results77, go_sem]) rfl ⟨rfl, (show KX X W w2.drew from ⟨kW2.out.os, kW2.out.tape, kW2.out.output, kW2.out.size, kW2.out.block⟩).trans (kF.out.less fun b hb => .inl hb), _, hF.out.less fun b hb => .inl hb⟩
end Go.Proofs.Ytpaehkjnefgaiaa
namespace Go.Proofs.Ytpaehkjnefgaiaa
open Go.RowKit
set_option linter.unusedVariables false
set_option linter.unusedSimpArgs false
set_option linter.unnecessarySimpa false
set_option maxRecDepth 100000
@[reducible] def spCells (s : Spt) : Array Value := #[.int .i64 s.1, .int .i64 s.2.1, .int .i64 s.2.2]
set_option maxHeartbeats 4000000 in
theorem tri_any (W : World) (base g B : Nat) (r : Nat → Nat) (R : Nat) (P : List Spt) (T : List NTri) (sv tv : Value) (X : Nat → Prop) (h : WebB W base g B r R P P T sv tv X) (sa sb sc : Spt) (hsa : sa ∈ P) (hsb : sb ∈ P) (hsc : sc ∈ P) (hl : T.length < 100000) :
    Calls Try.prog 94 #[.pointer (some ⟨g, 0, none⟩), sV sa, sV sb, sV sc] W fun e W' => e = .returned (.tuple #[]) ∧ KX X W W' ∧ ∃ tv', WebB W' base g B r R P P (T ++ [(nof P sa, nof P sb, nof P sc)]) sv tv' X := by
  obtain ⟨w2, hw2⟩ : ∃ w2, w2 = ((W.alloc (.cells (spCells sa) 79)).alloc (.cells (spCells sb) 79)).alloc (.cells (spCells sc) 79) := ⟨_, rfl⟩
  have hW2 : WebB w2 base g B r R P P T sv tv (fun b => ((X b ∨ b = W.heap.size) ∨ b = W.heap.size + 1) ∨ b = W.heap.size + 1 + 1) := by
    have h1 := ((h.more (.cells (spCells sa) 79)).more (.cells (spCells sb) 79)).more (.cells (spCells sc) 79)
    simp only [World.size_alloc] at h1
    rw [hw2]; exact h1
  have kW2 : KX X W w2 := by
    rw [hw2]; exact (h.below (bel_alloc (bel_alloc (bel_alloc (Below.refl _ _) _) _) _)).2
  have hDa : Blk w2 W.heap.size 79 (spCells sa) := by rw [hw2]; exact ((Blk.new _ _ _ _ rfl).alloc _).alloc _
  have hDb : Blk w2 (W.heap.size + 1) 79 (spCells sb) := by rw [hw2]; exact (Blk.new _ _ _ _ (by simp)).alloc _
  have hDc : Blk w2 (W.heap.size + 1 + 1) 79 (spCells sc) := by rw [hw2]; exact Blk.new _ _ _ _ (by simp)
  obtain ⟨At, ct, rfl⟩ := ownW_form h.tr
  clear h
  go_enter Try.func94, Try.ntmps94
  go_upto_region 1 with (fail)
  simp only [← hw2]
  clear hw2
  generalize W.heap.size + 1 + 1 = b7 at *
  generalize W.heap.size + 1 = b6 at *
  generalize W.heap.size = b5 at *
  obtain ⟨v1, u2, hr, hsz, hgk, hXk, hM2, hF, kF⟩ := (show WebB w2.drew base g B r R P P T sv (.slice At T.length ct) (fun b => ((X b ∨ b = b5) ∨ b = b6) ∨ b = b7) from ⟨hW2.blk, hW2.gl, hW2.Bl, hW2.gB, hW2.le, hW2.sp, hW2.tr, hW2.ap, hW2.mp, hW2.x⟩).addT (nof P sa, nof P sb, nof P sc) (by omega) 36
  obtain ⟨A1, n1, c1, rfl⟩ : ∃ A n c, v1 = .slice A n c := by obtain ⟨A, c, e⟩ := ownW_form hF.tr; exact ⟨A, _, c, e⟩
  have hK : ∀ u, (u = w2.drew ∨ u = (w2.drew.alloc (.cells #[.int .i64 (nof P sa : Int), .int .i64 (nof P sb : Int), .int .i64 (nof P sc : Int)] 60)) ∨ u = u2) → (∀ j v, w2.cell? ⟨g, j, none⟩ = some v → u.cell? ⟨g, j, none⟩ = some v) ∧ (∀ j v, w2.cell? ⟨b5, j, none⟩ = some v → u.cell? ⟨b5, j, none⟩ = some v) ∧ (∀ j v, w2.cell? ⟨b6, j, none⟩ = some v → u.cell? ⟨b6, j, none⟩ = some v) ∧ (∀ j v, w2.cell? ⟨b7, j, none⟩ = some v → u.cell? ⟨b7, j, none⟩ = some v) ∧ SpM u B P := by
    have lg := hW2.blk.lt
    have la := hDa.lt
    have lb := hDb.lt
    have lc := hDc.lt
    rintro u (rfl | rfl | rfl)
    · exact ⟨fun j v h => h, fun j v h => h, fun j v h => h, fun j v h => h, hW2.mp⟩
    · have hba : Below (w2.drew).heap.size (w2.drew) (w2.drew.alloc (.cells #[.int .i64 (nof P sa : Int), .int .i64 (nof P sb : Int), .int .i64 (nof P sc : Int)] 60)) := bel_alloc (Below.refl _ _) _
      have hmd : SpM w2.drew B P := hW2.mp
      exact ⟨fun j v h => (hba.cell (p := ⟨g, j, none⟩) lg).trans h, fun j v h => (hba.cell (p := ⟨b5, j, none⟩) la).trans h, fun j v h => (hba.cell (p := ⟨b6, j, none⟩) lb).trans h, fun j v h => (hba.cell (p := ⟨b7, j, none⟩) lc).trans h, hmd.kept (row := none) ⟨hba.os, hba.tape, hba.output, hba.size, fun k hk _ => hba.block k hk⟩ (by simp)⟩
    · exact ⟨fun j v h => (World.cell?_of_block hgk).trans h, fun j v h => (World.cell?_of_block (hXk b5 (.inl (.inl (.inr rfl))))).trans h, fun j v h => (World.cell?_of_block (hXk b6 (.inl (.inr rfl)))).trans h, fun j v h => (World.cell?_of_block (hXk b7 (.inr rfl))).trans h, hM2⟩
  have n11 : w2.cell? ⟨g, 11, none⟩ = some (.slice At T.length ct) := hW2.blk.cell 11
  have n10 : w2.cell? ⟨g, 10, none⟩ = some (.map (some B)) := hW2.blk.cell 10
  have sa0 : w2.cell? ⟨b5, 0, none⟩ = some (.int .i64 sa.1) := hDa.cell 0
  have sa1 : w2.cell? ⟨b5, 1, none⟩ = some (.int .i64 sa.2.1) := hDa.cell 1
  have sa2 : w2.cell? ⟨b5, 2, none⟩ = some (.int .i64 sa.2.2) := hDa.cell 2
  have sb0 : w2.cell? ⟨b6, 0, none⟩ = some (.int .i64 sb.1) := hDb.cell 0
  have sb1 : w2.cell? ⟨b6, 1, none⟩ = some (.int .i64 sb.2.1) := hDb.cell 1
  have sb2 : w2.cell? ⟨b6, 2, none⟩ = some (.int .i64 sb.2.2) := hDb.cell 2
  have sc0 : w2.cell? ⟨b7, 0, none⟩ = some (.int .i64 sc.1) := hDc.cell 0
  have sc1 : w2.cell? ⟨b7, 1, none⟩ = some (.int .i64 sc.2.1) := hDc.cell 1
  have sc2 : w2.cell? ⟨b7, 2, none⟩ = some (.int .i64 sc.2.2) := hDc.cell 2
  refine wp_region_monoK 28 (RKW [.pointer (some ⟨g, 0, none⟩), .pointer (some ⟨g, 0, none⟩), .pointer (some ⟨g, 0, none⟩), .pointer (some ⟨g, 11, none⟩), .slice At T.length ct, .pointer (some ⟨g, 0, none⟩), .pointer (some ⟨g, 0, none⟩), .pointer (some ⟨g, 10, none⟩), .map (some B), .agg #[.int .i64 sa.1, .int .i64 sa.2.1, .int .i64 sa.2.2], .int .i64 (nof P sa : Int), .pointer (some ⟨g, 0, none⟩), .pointer (some ⟨g, 0, none⟩), .pointer (some ⟨g, 10, none⟩), .map (some B), .agg #[.int .i64 sb.1, .int .i64 sb.2.1, .int .i64 sb.2.2], .int .i64 (nof P sb : Int), .pointer (some ⟨g, 0, none⟩), .pointer (some ⟨g, 0, none⟩), .pointer (some ⟨g, 10, none⟩), .map (some B), .agg #[.int .i64 sc.1, .int .i64 sc.2.1, .int .i64 sc.2.2], .int .i64 (nof P sc : Int), .agg #[.int .i64 (nof P sa : Int), .int .i64 (nof P sb : Int), .int .i64 (nof P sc : Int)], .slice (some ⟨w2.drew.heap.size, 0, none⟩) 1 1, .slice A1 n1 c1, .pointer (some ⟨g, 0, none⟩), .pointer (some ⟨g, 11, none⟩)]) (PhJ 24 25 w2.drew (w2.drew.alloc (.cells #[.int .i64 (nof P sa : Int), .int .i64 (nof P sb : Int), .int .i64 (nof P sc : Int)] 60)) u2) (by kernel_rfl) _ rfl (by kernel_rfl) (by kernel_rfl) (by kernel_rfl) (by kernel_rfl) (by kernel_rfl) ⟨by decide, by decide, fun h => by simp [Array.getD] at h, rfl⟩ ?_ ?_
  · simp only [List.take_succ_cons, List.take_zero]
    refine ⟨?_, ?_, ?_, ?_, ?_, ?_, ?_, ?_, ?_, ?_, ?_, ?_, ?_, ?_, ?_, ?_, ?_, ?_, ?_, ?_, ?_, ?_, ?_, ?_, ?_, ?_, ?_, ?_, ?_⟩
    · refine mono_read rfl (by decide) (by decide) (fun a u hu hk hp => ?_)
      have es0 := (hk 0 (keep_of (by kernel_rfl))).trans (show _ = some (.pointer (some ⟨g, 0, none⟩)) from rfl)
      exact ⟨_, by simp [execOp, go_sem, es0], rfl⟩
    · refine mono_read rfl (by decide) (by decide) (fun a u hu hk hp => ?_)
      have es0 := (hk 0 (keep_of (by kernel_rfl))).trans (show _ = some (.pointer (some ⟨g, 0, none⟩)) from rfl)
      exact ⟨_, by simp [execOp, go_sem, es0], rfl⟩
    · refine mono_read rfl (by decide) (by decide) (fun a u hu hk hp => ?_)
      obtain ⟨x1, ex1, rx1⟩ := hp ⟨1, .data⟩ (by simp) rfl _ _ rfl rfl
      obtain rfl : x1 = _ := rx1
      exact ⟨_, by simp [execOp, go_sem, ex1], rfl⟩
    · refine mono_read rfl (by decide) (by decide) (fun a u hu hk hp => ?_)
      obtain ⟨x2, ex2, rx2⟩ := hp ⟨2, .data⟩ (by simp) rfl _ _ rfl rfl
      obtain rfl : x2 = _ := rx2
      exact ⟨_, by simp [execOp, go_sem, ex2], rfl⟩
    · refine mono_read rfl (by decide) (by decide) (fun a u hu hk hp => ?_)
      obtain ⟨x3, ex3, rx3⟩ := hp ⟨3, .data⟩ (by simp) rfl _ _ rfl rfl
      obtain rfl : x3 = _ := rx3
      have fc0 := (hK u hu).1 11 _ n11
      exact ⟨_, by simp [execOp, go_sem, ex3, fc0], rfl⟩
    · refine mono_read rfl (by decide) (by decide) (fun a u hu hk hp => ?_)
      have es0 := (hk 0 (keep_of (by kernel_rfl))).trans (show _ = some (.pointer (some ⟨g, 0, none⟩)) from rfl)
      exact ⟨_, by simp [execOp, go_sem, es0], rfl⟩
    · refine mono_read rfl (by decide) (by decide) (fun a u hu hk hp => ?_)
      obtain ⟨x5, ex5, rx5⟩ := hp ⟨5, .data⟩ (by simp) rfl _ _ rfl rfl
      obtain rfl : x5 = _ := rx5
      exact ⟨_, by simp [execOp, go_sem, ex5], rfl⟩
    · refine mono_read rfl (by decide) (by decide) (fun a u hu hk hp => ?_)
      obtain ⟨x6, ex6, rx6⟩ := hp ⟨6, .data⟩ (by simp) rfl _ _ rfl rfl
      obtain rfl : x6 = _ := rx6
      exact ⟨_, by simp [execOp, go_sem, ex6], rfl⟩
    · refine mono_read rfl (by decide) (by decide) (fun a u hu hk hp => ?_)
      obtain ⟨x7, ex7, rx7⟩ := hp ⟨7, .data⟩ (by simp) rfl _ _ rfl rfl
      obtain rfl : x7 = _ := rx7
      have fc0 := (hK u hu).1 10 _ n10
      exact ⟨_, by simp [execOp, go_sem, ex7, fc0], rfl⟩
    · refine mono_read rfl (by decide) (by decide) (fun a u hu hk hp => ?_)
      have es5 := (hk 5 (keep_of (by kernel_rfl))).trans (show _ = some (.pointer (some ⟨b5, 0, none⟩)) from rfl)
      have fc0 := (hK u hu).2.1 0 _ sa0
      have fc1 := (hK u hu).2.1 1 _ sa1
      have fc2 := (hK u hu).2.1 2 _ sa2
      exact ⟨_, ldmW_run _ _ _ 79 _ rfl (b5) (0) (eval_tmp es5) _ _ (rng3W fc0 fc1 fc2) Try.underlying79 rfl infoS3, rfl⟩
    · refine mono_read rfl (by decide) (by decide) (fun a u hu hk hp => ?_)
      obtain ⟨x8, ex8, rx8⟩ := hp ⟨8, .data⟩ (by simp) rfl _ _ rfl rfl
      obtain rfl : x8 = _ := rx8
      obtain ⟨x9, ex9, rx9⟩ := hp ⟨9, .data⟩ (by simp) rfl _ _ rfl rfl
      obtain rfl : x9 = _ := rx9
      exact ⟨_, SpM.look (hK u hu).2.2.2.2 hsa _ _ _ _ rfl (eval_tmp ex8) (eval_tmp ex9), rfl⟩
    · refine mono_read rfl (by decide) (by decide) (fun a u hu hk hp => ?_)
      have es0 := (hk 0 (keep_of (by kernel_rfl))).trans (show _ = some (.pointer (some ⟨g, 0, none⟩)) from rfl)
      exact ⟨_, by simp [execOp, go_sem, es0], rfl⟩
    · refine mono_read rfl (by decide) (by decide) (fun a u hu hk hp => ?_)
      obtain ⟨x11, ex11, rx11⟩ := hp ⟨11, .data⟩ (by simp) rfl _ _ rfl rfl
      obtain rfl : x11 = _ := rx11
      exact ⟨_, by simp [execOp, go_sem, ex11], rfl⟩
    · refine mono_read rfl (by decide) (by decide) (fun a u hu hk hp => ?_)
      obtain ⟨x12, ex12, rx12⟩ := hp ⟨12, .data⟩ (by simp) rfl _ _ rfl rfl
      obtain rfl : x12 = _ := rx12
      exact ⟨_, by simp [execOp, go_sem, ex12], rfl⟩
    · refine mono_read rfl (by decide) (by decide) (fun a u hu hk hp => ?_)
      obtain ⟨x13, ex13, rx13⟩ := hp ⟨13, .data⟩ (by simp) rfl _ _ rfl rfl
      obtain rfl : x13 = _ := rx13
      have fc0 := (hK u hu).1 10 _ n10
      exact ⟨_, by simp [execOp, go_sem, ex13, fc0], rfl⟩
    · refine mono_read rfl (by decide) (by decide) (fun a u hu hk hp => ?_)
      have es6 := (hk 6 (keep_of (by kernel_rfl))).trans (show _ = some (.pointer (some ⟨b6, 0, none⟩)) from rfl)
      have fc0 := (hK u hu).2.2.1 0 _ sb0
      have fc1 := (hK u hu).2.2.1 1 _ sb1
      have fc2 := (hK u hu).2.2.1 2 _ sb2
      exact ⟨_, ldmW_run _ _ _ 79 _ rfl (b6) (0) (eval_tmp es6) _ _ (rng3W fc0 fc1 fc2) Try.underlying79 rfl infoS3, rfl⟩
    · refine mono_read rfl (by decide) (by decide) (fun a u hu hk hp => ?_)
      obtain ⟨x14, ex14, rx14⟩ := hp ⟨14, .data⟩ (by simp) rfl _ _ rfl rfl
      obtain rfl : x14 = _ := rx14
      obtain ⟨x15, ex15, rx15⟩ := hp ⟨15, .data⟩ (by simp) rfl _ _ rfl rfl
      obtain rfl : x15 = _ := rx15
      exact ⟨_, SpM.look (hK u hu).2.2.2.2 hsb _ _ _ _ rfl (eval_tmp ex14) (eval_tmp ex15), rfl⟩
    · refine mono_read rfl (by decide) (by decide) (fun a u hu hk hp => ?_)
      have es0 := (hk 0 (keep_of (by kernel_rfl))).trans (show _ = some (.pointer (some ⟨g, 0, none⟩)) from rfl)
      exact ⟨_, by simp [execOp, go_sem, es0], rfl⟩
    · refine mono_read rfl (by decide) (by decide) (fun a u hu hk hp => ?_)
      obtain ⟨x17, ex17, rx17⟩ := hp ⟨17, .data⟩ (by simp) rfl _ _ rfl rfl
      obtain rfl : x17 = _ := rx17
      exact ⟨_, by simp [execOp, go_sem, ex17], rfl⟩
    · refine mono_read rfl (by decide) (by decide) (fun a u hu hk hp => ?_)
      obtain ⟨x18, ex18, rx18⟩ := hp ⟨18, .data⟩ (by simp) rfl _ _ rfl rfl
      obtain rfl : x18 = _ := rx18
      exact ⟨_, by simp [execOp, go_sem, ex18], rfl⟩
    · refine mono_read rfl (by decide) (by decide) (fun a u hu hk hp => ?_)
      obtain ⟨x19, ex19, rx19⟩ := hp ⟨19, .data⟩ (by simp) rfl _ _ rfl rfl
      obtain rfl : x19 = _ := rx19
      have fc0 := (hK u hu).1 10 _ n10
      exact ⟨_, by simp [execOp, go_sem, ex19, fc0], rfl⟩
    · refine mono_read rfl (by decide) (by decide) (fun a u hu hk hp => ?_)
      have es7 := (hk 7 (keep_of (by kernel_rfl))).trans (show _ = some (.pointer (some ⟨b7, 0, none⟩)) from rfl)
      have fc0 := (hK u hu).2.2.2.1 0 _ sc0
      have fc1 := (hK u hu).2.2.2.1 1 _ sc1
      have fc2 := (hK u hu).2.2.2.1 2 _ sc2
      exact ⟨_, ldmW_run _ _ _ 79 _ rfl (b7) (0) (eval_tmp es7) _ _ (rng3W fc0 fc1 fc2) Try.underlying79 rfl infoS3, rfl⟩
    · refine mono_read rfl (by decide) (by decide) (fun a u hu hk hp => ?_)
      obtain ⟨x20, ex20, rx20⟩ := hp ⟨20, .data⟩ (by simp) rfl _ _ rfl rfl
      obtain rfl : x20 = _ := rx20
      obtain ⟨x21, ex21, rx21⟩ := hp ⟨21, .data⟩ (by simp) rfl _ _ rfl rfl
      obtain rfl : x21 = _ := rx21
      exact ⟨_, SpM.look (hK u hu).2.2.2.2 hsc _ _ _ _ rfl (eval_tmp ex20) (eval_tmp ex21), rfl⟩
    · refine mono_read rfl (by decide) (by decide) (fun a u hu hk hp => ?_)
      obtain ⟨x10, ex10, rx10⟩ := hp ⟨10, .data⟩ (by simp) rfl _ _ rfl rfl
      obtain rfl : x10 = _ := rx10
      obtain ⟨x16, ex16, rx16⟩ := hp ⟨16, .data⟩ (by simp) rfl _ _ rfl rfl
      obtain rfl : x16 = _ := rx16
      obtain ⟨x22, ex22, rx22⟩ := hp ⟨22, .data⟩ (by simp) rfl _ _ rfl rfl
      obtain rfl : x22 = _ := rx22
      exact ⟨_, by simp [execOp, go_sem, ex10, ex16, ex22], rfl⟩
    · refine mono_first rfl (by decide) (fun a hk hp => ?_)
      obtain ⟨x23, ex23, rx23⟩ := hp ⟨23, .data⟩ (by simp) rfl _ _ rfl rfl
      obtain rfl : x23 = _ := rx23
      exact ⟨_, by simp [execOp, go_sem, ex23], rfl⟩
    · refine mono_second rfl (by decide) ⟨⟨24, .data⟩, by simp, rfl, rfl⟩ (fun a hk hp => ?_)
      obtain ⟨x4, ex4, rx4⟩ := hp ⟨4, .data⟩ (by simp) rfl _ _ rfl rfl
      obtain rfl : x4 = _ := rx4
      obtain ⟨x24, ex24, rx24⟩ := hp ⟨24, .data⟩ (by simp) rfl _ _ rfl rfl
      obtain rfl : x24 = _ := rx24
      exact ⟨_, run_appW _ _ _ rfl (eval_tmp ex4) (eval_tmp ex24) hr, rfl⟩
    · refine mono_read rfl (by decide) (by decide) (fun a u hu hk hp => ?_)
      obtain ⟨x0, ex0, rx0⟩ := hp ⟨0, .data⟩ (by simp) rfl _ _ rfl rfl
      obtain rfl : x0 = _ := rx0
      exact ⟨_, by simp [execOp, go_sem, ex0], rfl⟩
    · refine mono_read rfl (by decide) (by decide) (fun a u hu hk hp => ?_)
      obtain ⟨x26, ex26, rx26⟩ := hp ⟨26, .data⟩ (by simp) rfl _ _ rfl rfl
      obtain rfl : x26 = _ := rx26
      exact ⟨_, by simp [execOp, go_sem, ex26], rfl⟩
    · trivial
  · intro a wz listed hJ hall hsz hdf hk hgot
    have hwz : u2 = wz := (phJ_end hJ (by decide) hall).symm
    clear hJ
    subst hwz
    obtain ⟨vv25, ev25, rv25⟩ := hgot 25 _ 33 rfl rfl
    obtain rfl : vv25 = _ := rv25
    obtain ⟨vv27, ev27, rv27⟩ := hgot 27 _ 35 rfl rfl
    obtain rfl : vv27 = _ := rv27
    obtain ⟨f, hf, rfl⟩ := frame_eq hsz hdf hk [8, 9, 10, 11, 12, 13, 14, 15, 16, 17, 18, 19, 20, 21, 22, 23, 24, 25, 26, 27, 28, 29, 30, 31, 32, 33, 34, 35] (by rfl)
    have f33 := hf 33 _ ev25
    have f35 := hf 35 _ ev27
    clear hsz hdf hk hgot hf hall ev25 ev27
    simp only [List.drop_succ_cons, List.drop_zero, setAll, List.setIfInBounds_toArray, List.set_cons_succ, List.set_cons_zero, f33, f35]
    clear f33 f35
    generalize f 8 = uu8; generalize f 9 = uu9; generalize f 10 = uu10; generalize f 11 = uu11; generalize f 12 = uu12; generalize f 13 = uu13; generalize f 14 = uu14; generalize f 15 = uu15; generalize f 16 = uu16; generalize f 17 = uu17; generalize f 18 = uu18; generalize f 19 = uu19; generalize f 20 = uu20; generalize f 21 = uu21; generalize f 22 = uu22; generalize f 23 = uu23; generalize f 24 = uu24; generalize f 25 = uu25; generalize f 26 = uu26; generalize f 27 = uu27; generalize f 28 = uu28; generalize f 29 = uu29; generalize f 30 = uu30; generalize f 31 = uu31; generalize f 32 = uu32; generalize f 34 = uu34
    have s0 : u2.cell? ⟨g, 11, none⟩ = some (.slice At T.length ct) := (hK u2 (.inr (.inr rfl))).1 11 _ n11
    have sf : u2.frozen? ⟨g, 11, none⟩ = false := (World.frozen?_of_block hgk).trans (hW2.blk.frozen 11)
    have sl : g < u2.heap.size := Nat.lt_of_lt_of_le hW2.blk.lt hsz
    clear hW2 hDa hDb hDc hsz hgk hXk hr hK n11 n10 sa0 sa1 sa2 sb0 sb1 sb2 sc0 sc1 sc2 hM2
    replace hF := Lib.hid hF
    replace kF := Lib.hid kF
    replace kW2 := Lib.hid kW2
    go_wp2
    refine bodyPost_end (v := .tuple #[]) (by simp [results, Try.results94, go_sem]) rfl ⟨rfl, (show KX X W w2.drew from ⟨kW2.out.os, kW2.out.tape, kW2.out.output, kW2.out.size, kW2.out.block⟩).trans (kF.out.less fun b hb => .inl (.inl (.inl hb))), _, hF.out.less fun b hb => .inl (.inl (.inl hb))⟩
end Go.Proofs.Ytpaehkjnefgaiaa
namespace Go.Proofs.Ytpaehkjnefgaiaa
open Go.RowKit
set_option linter.unusedVariables false
set_option linter.unusedSimpArgs false
set_option linter.unnecessarySimpa false
set_option maxRecDepth 100000
/-- The web, its row of triangles wherever it lies. -/
def WebT (W : World) (base g B : Nat) (r : Nat → Nat) (R : Nat) (P : List Spt) (T : List NTri) (sv : Value) (X : Nat → Prop) : Prop := ∃ tv, WebB W base g B r R P P T sv tv X
theorem WebT.less {W : World} {base g B : Nat} {r : Nat → Nat} {R : Nat} {P : List Spt} {T : List NTri} {sv : Value} {X Y : Nat → Prop} (h : WebT W base g B r R P T sv X) (hY : ∀ b, Y b → X b) : WebT W base g B r R P T sv Y := h.imp fun _ h => h.less hY
theorem WebT.more {W : World} {base g B : Nat} {r : Nat → Nat} {R : Nat} {P : List Spt} {T : List NTri} {sv : Value} {X : Nat → Prop} (h : WebT W base g B r R P T sv X) (o : Obj) : WebT (W.alloc o) base g B r R P T sv (fun b => X b ∨ b = W.heap.size) := h.imp fun _ h => h.more o
theorem WebT.below {W W' : World} {base g B : Nat} {r : Nat → Nat} {R : Nat} {P : List Spt} {T : List NTri} {sv : Value} {X : Nat → Prop} (h : WebT W base g B r R P T sv X) (hb : Below W.heap.size W W') : WebT W' base g B r R P T sv X ∧ KX X W W' := by
  obtain ⟨tv, h⟩ := h; exact ⟨⟨tv, (h.below hb).1⟩, (h.below hb).2⟩
theorem WebT.most {W : World} {base g B : Nat} {r : Nat → Nat} {R : Nat} {P : List Spt} {T : List NTri} {sv : Value} {X : Nat → Prop} (h : WebT W base g B r R P T sv X) : W.cell? ⟨g, 8, none⟩ = some (.int .i64 (R : Int)) ∧ g < W.heap.size := by
  obtain ⟨tv, h⟩ := h; exact ⟨h.blk.cell 8, h.blk.lt⟩
def num3 (P : List Spt) (t : Tri) : NTri := (nof P t.1, nof P t.2.1, nof P t.2.2)
def numT (P : List Spt) (l : List Tri) : List NTri := l.map (num3 P)
def in3 (P : List Spt) (t : Tri) : Prop := t.1 ∈ P ∧ t.2.1 ∈ P ∧ t.2.2 ∈ P
theorem tri_T {W : World} {base g B : Nat} {r : Nat → Nat} {R : Nat} {P : List Spt} {T : List NTri} {sv : Value} {X : Nat → Prop} (h : WebT W base g B r R P T sv X) (t : Tri) (ht : in3 P t) (hl : T.length < 100000) :
    Calls Try.prog 94 #[.pointer (some ⟨g, 0, none⟩), sV t.1, sV t.2.1, sV t.2.2] W fun e W' => e = .returned (.tuple #[]) ∧ KX X W W' ∧ WebT W' base g B r R P (T ++ numT P [t]) sv X := by
  obtain ⟨tv, h⟩ := h
  exact tri_any W base g B r R P T sv tv X h t.1 t.2.1 t.2.2 ht.1 ht.2.1 ht.2.2 hl
set_option maxHeartbeats 2000000 in
theorem square_any (W : World) (base g B : Nat) (r : Nat → Nat) (R : Nat) (P : List Spt) (T : List NTri) (sv : Value) (X : Nat → Prop) (h : WebT W base g B r R P T sv X) (sa sb sc sd : Spt) (hsa : sa ∈ P) (hsb : sb ∈ P) (hsc : sc ∈ P) (hsd : sd ∈ P) (hl : T.length < 90000) :
    Calls Try.prog 81 #[.pointer (some ⟨g, 0, none⟩), sV sa, sV sb, sV sc, sV sd] W fun e W' => e = .returned (.tuple #[]) ∧ KX X W W' ∧ WebT W' base g B r R P (T ++ numT P (sqS sa sb sc sd)) sv X := by
  obtain ⟨w2, hw2⟩ : ∃ w2, w2 = (((W.alloc (.cells (spCells sa) 79)).alloc (.cells (spCells sb) 79)).alloc (.cells (spCells sc) 79)).alloc (.cells (spCells sd) 79) := ⟨_, rfl⟩
  have hW2 : WebT w2 base g B r R P T sv (fun b => (((X b ∨ b = W.heap.size) ∨ b = W.heap.size + 1) ∨ b = W.heap.size + 1 + 1) ∨ b = W.heap.size + 1 + 1 + 1) := by
    have h1 := (((h.more (.cells (spCells sa) 79)).more (.cells (spCells sb) 79)).more (.cells (spCells sc) 79)).more (.cells (spCells sd) 79)
    simp only [World.size_alloc] at h1
    rw [hw2]; exact h1
  have kW2 : KX X W w2 := by
    rw [hw2]; exact (h.below (bel_alloc (bel_alloc (bel_alloc (bel_alloc (Below.refl _ _) _) _) _) _)).2
  have hDa : Blk w2 W.heap.size 79 (spCells sa) := by rw [hw2]; exact (((Blk.new _ _ _ _ rfl).alloc _).alloc _).alloc _
  have hDb : Blk w2 (W.heap.size + 1) 79 (spCells sb) := by rw [hw2]; exact ((Blk.new _ _ _ _ (by simp)).alloc _).alloc _
  have hDc : Blk w2 (W.heap.size + 1 + 1) 79 (spCells sc) := by rw [hw2]; exact (Blk.new _ _ _ _ (by simp)).alloc _
  have hDd : Blk w2 (W.heap.size + 1 + 1 + 1) 79 (spCells sd) := by rw [hw2]; exact Blk.new _ _ _ _ (by simp)
  clear h
  go_enter Try.func81, Try.ntmps81
  go_upto_region 1 with (fail)
  simp only [← hw2]
  clear hw2
  generalize W.heap.size + 1 + 1 + 1 = b8 at *
  generalize W.heap.size + 1 + 1 = b7 at *
  generalize W.heap.size + 1 = b6 at *
  generalize W.heap.size = b5 at *
  have sa0 : w2.cell? ⟨b5, 0, none⟩ = some (.int .i64 sa.1) := hDa.cell 0
  have sa1 : w2.cell? ⟨b5, 1, none⟩ = some (.int .i64 sa.2.1) := hDa.cell 1
  have sa2 : w2.cell? ⟨b5, 2, none⟩ = some (.int .i64 sa.2.2) := hDa.cell 2
  have sb0 : w2.cell? ⟨b6, 0, none⟩ = some (.int .i64 sb.1) := hDb.cell 0
  have sb1 : w2.cell? ⟨b6, 1, none⟩ = some (.int .i64 sb.2.1) := hDb.cell 1
  have sb2 : w2.cell? ⟨b6, 2, none⟩ = some (.int .i64 sb.2.2) := hDb.cell 2
  have sc0 : w2.cell? ⟨b7, 0, none⟩ = some (.int .i64 sc.1) := hDc.cell 0
  have sc1 : w2.cell? ⟨b7, 1, none⟩ = some (.int .i64 sc.2.1) := hDc.cell 1
  have sc2 : w2.cell? ⟨b7, 2, none⟩ = some (.int .i64 sc.2.2) := hDc.cell 2
  have cT := tri_T hW2 (sa, sb, sc) ⟨hsa, hsb, hsc⟩ (by omega)
  replace cT := Lib.hid cT
  have hl1 : (T ++ numT P [(sa, sb, sc)]).length < 100000 := by simp [numT]; omega
  go_upto_region 2 with (first | (go_at_call 94; (with_reducible refine cT.out.mono ?_); rintro e w3 ⟨rfl, k3, hW3⟩) | fail)
  have hDa3 : Blk w3 b5 79 (spCells sa) := (k3.block b5 (.inl (.inl (.inl (.inr rfl))))).trans hDa
  have hDc3 : Blk w3 b7 79 (spCells sc) := (k3.block b7 (.inl (.inr rfl))).trans hDc
  have hDd3 : Blk w3 b8 79 (spCells sd) := (k3.block b8 (.inr rfl)).trans hDd
  have kW3 : KX X W w3 := kW2.trans (k3.less fun b hb => .inl (.inl (.inl (.inl hb))))
  clear sa0 sa1 sa2 sb0 sb1 sb2 sc0 sc1 sc2 hDa hDb hDc hDd k3 hW2 kW2 cT
  have sa0 : w3.cell? ⟨b5, 0, none⟩ = some (.int .i64 sa.1) := hDa3.cell 0
  have sa1 : w3.cell? ⟨b5, 1, none⟩ = some (.int .i64 sa.2.1) := hDa3.cell 1
  have sa2 : w3.cell? ⟨b5, 2, none⟩ = some (.int .i64 sa.2.2) := hDa3.cell 2
  have sc0 : w3.cell? ⟨b7, 0, none⟩ = some (.int .i64 sc.1) := hDc3.cell 0
  have sc1 : w3.cell? ⟨b7, 1, none⟩ = some (.int .i64 sc.2.1) := hDc3.cell 1
  have sc2 : w3.cell? ⟨b7, 2, none⟩ = some (.int .i64 sc.2.2) := hDc3.cell 2
  have sd0 : w3.cell? ⟨b8, 0, none⟩ = some (.int .i64 sd.1) := hDd3.cell 0
  have sd1 : w3.cell? ⟨b8, 1, none⟩ = some (.int .i64 sd.2.1) := hDd3.cell 1
  have sd2 : w3.cell? ⟨b8, 2, none⟩ = some (.int .i64 sd.2.2) := hDd3.cell 2
  have la := hDa3.lt
  have lc := hDc3.lt
  have ld := hDd3.lt
  have cT := tri_T hW3 (sa, sc, sd) ⟨hsa, hsc, hsd⟩ hl1
  replace cT := Lib.hid cT
  go_wp2_with (first | (go_at_call 94; (with_reducible refine cT.out.mono ?_); rintro e w4 ⟨rfl, k4, hW4⟩) | fail)
  refine bodyPost_end (v := .tuple #[]) (by simp [results, Try.results81, go_sem]) rfl ⟨rfl, kW3.trans (k4.less fun b hb => .inl (.inl (.inl (.inl hb)))), ?_⟩
  have := hW4.less (Y := X) fun b hb => .inl (.inl (.inl (.inl hb)))
  rw [List.append_assoc] at this
  exact this
set_option maxHeartbeats 4000000 in
theorem strip_any (W : World) (base g B : Nat) (r : Nat → Nat) (R : Nat) (P : List Spt) (T : List NTri) (sv : Value) (X : Nat → Prop) (h : WebT W base g B r R P T sv X) (k rk : Nat) (hk : k < 4) (hr1 : 1 ≤ rk) (hr2 : rk ≤ 16) (hR : 2 ≤ R) (hR2 : R ≤ 16) (hP : ∀ t ∈ stripS k rk R, in3 P t) (hl : T.length < 50000) :
    Calls Try.prog 82 #[.pointer (some ⟨g, 0, none⟩), .agg #[.int .i64 (k : Int), .int .i64 (rk : Int)]] W fun e W' => e = .returned (.tuple #[]) ∧ KX X W W' ∧ WebT W' base g B r R P (T ++ numT P (stripS k rk R)) sv X := by
  obtain ⟨w2, hw2⟩ : ∃ w2, w2 = W.alloc (.cells #[.int .i64 (k : Int), .int .i64 (rk : Int)] 109) := ⟨_, rfl⟩
  have hW2 : WebT w2 base g B r R P T sv (fun b => X b ∨ b = W.heap.size) := by
    rw [hw2]; exact h.more _
  have kW2 : KX X W w2 := by
    rw [hw2]; exact (h.below (bel_alloc (Below.refl _ _) _)).2
  have hD : Blk w2 W.heap.size 109 #[.int .i64 (k : Int), .int .i64 (rk : Int)] := by rw [hw2]; exact Blk.new _ _ _ _ rfl
  replace hP := Lib.hid hP
  clear h
  go_enter Try.func82, Try.ntmps82
  go_upto_region 1 with (fail)
  simp only [← hw2]
  clear hw2
  generalize W.heap.size = b3 at *
  have m8 := hW2.most.1
  have lg := hW2.most.2
  go_wp2
  go_loopw [5, 6] (fun iv tv wr => ∃ (i t : Nat) (done : List Tri), iv = .int .i64 (i : Int) ∧ tv = .int .i64 (t : Int) ∧ i ≤ rk ∧ 1 ≤ t ∧ t ≤ R - 1 ∧ Hid (done ++ stpS k rk R (leftS rk R i t) i t = stripS k rk R) ∧ WebT wr base g B r R P (T ++ numT P done) sv (fun b => X b ∨ b = b3) ∧ KX (fun b => X b ∨ b = b3) w2 wr) (fun iv tv _ => (rk - (intOf iv).toNat) + (R - (intOf tv).toNat))
  case atStart => exact ⟨0, 1, [], rfl, rfl, by omega, by omega, by omega, Lib.hid rfl, by simpa [numT] using hW2, KX.refl _ _⟩
  case round =>
    obtain ⟨i, t, done, rfl, rfl, hi, ht1, ht, hdone, hWr, kWr⟩ := hrel
    have hDr : Blk wr b3 109 #[.int .i64 (k : Int), .int .i64 (rk : Int)] := (kWr.block b3 (.inr rfl)).trans hD
    clear m8 lg
    have m8 := hWr.most.1
    have lg := hWr.most.2
    have d0 : wr.cell? ⟨b3, 0, none⟩ = some (.int .i64 (k : Int)) := hDr.cell 0
    have d1 : wr.cell? ⟨b3, 1, none⟩ = some (.int .i64 (rk : Int)) := hDr.cell 1
    have lb := hDr.lt
    have q1 : 0 ≤ (2 * (i : Int) + 1) * (R : Int) ∧ (2 * (i : Int) + 1) * (R : Int) ≤ 1000 := by
      have e : (2 * (i : Int) + 1) * (R : Int) = (((2 * i + 1) * R : Nat) : Int) := by simp
      have e2 : (2 * i + 1) * R ≤ 33 * 16 := Nat.mul_le_mul (by omega) hR2
      omega
    have q2 : 0 ≤ (2 * (t : Int) + 1) * (rk : Int) ∧ (2 * (t : Int) + 1) * (rk : Int) ≤ 1000 := by
      have e : (2 * (t : Int) + 1) * (rk : Int) = (((2 * t + 1) * rk : Nat) : Int) := by simp
      have e2 : (2 * t + 1) * rk ≤ 33 * 16 := Nat.mul_le_mul (by omega) hr2
      omega
    obtain ⟨q1a, q1b⟩ := q1
    obtain ⟨q2a, q2b⟩ := q2
    rcases (show (i < rk ∧ t = R - 1) ∨ (i < rk ∧ t < R - 1 ∧ (2 * i + 1) * R ≤ (2 * t + 1) * rk) ∨ (i < rk ∧ t < R - 1 ∧ ¬ (2 * i + 1) * R ≤ (2 * t + 1) * rk) ∨ (i = rk ∧ t < R - 1) ∨ (i = rk ∧ t = R - 1) by omega) with ⟨hi2, ht2⟩ | ⟨hi2, ht2, hcmp⟩ | ⟨hi2, ht2, hcmp⟩ | ⟨hi2, ht2⟩ | ⟨hi2, ht2⟩
    · have f1 : (i : Int) < (rk : Int) := by omega
      have f2 : ((t : Int) == (R : Int) - 1) = true := by simp; omega
      have hgo : goA rk R i t := ⟨by omega, .inl (by omega)⟩
      have hst := stp_A (k := k) hgo
      have h3 : in3 P (outS k rk i, outS k rk (i + 1), besS k t R) := hP.out _ (by rw [← hdone.out, hst]; simp)
      have hlT : (T ++ numT P done).length < 100000 := by
        have := congrArg List.length hdone.out
        rw [List.length_append, strip_len] at this
        simp [numT]; omega
      have kO := souter_G k rk i hk hr1 (by omega) hr2
      have kB := sbeside_G k t R hk (by omega) (by omega) hR2 (rk : Int)
      have kO2 := souter_G k rk (i + 1) hk hr1 (by omega) hr2
      rw [show ((i + 1 : Nat) : Int) = (i : Int) + 1 by omega] at kO2
      replace hst := Lib.hid hst
      replace ht2 := Lib.hid ht2
      replace hi2 := Lib.hid hi2
      clear hgo
      go_upto_region 4 with (fail)
      refine wp_region_grow (by kernel_rfl) (by kernel_rfl) ?_
      repeat (go_big_quiet_step (((fail))))
      refine wpQuiet_nil ?_
      rintro _ ⟨xg, rfl⟩
      obtain ⟨hW4, k4⟩ : WebT (grow wr xg) base g B r R P (T ++ numT P done) sv (fun b => X b ∨ b = b3) ∧ KX (fun b => X b ∨ b = b3) wr (grow wr xg) := hWr.below (xg.kept _)
      generalize grow wr xg = w4 at *
      have kk4 := kWr.trans k4
      have hD4 : Blk w4 b3 109 #[.int .i64 (k : Int), .int .i64 (rk : Int)] := (k4.block b3 (.inr rfl)).trans hDr
      clear m8 lg d0 d1 lb hWr kWr hDr k4
      have m8 := hW4.most.1
      have lg := hW4.most.2
      have d0 : w4.cell? ⟨b3, 0, none⟩ = some (.int .i64 (k : Int)) := hD4.cell 0
      have d1 : w4.cell? ⟨b3, 1, none⟩ = some (.int .i64 (rk : Int)) := hD4.cell 1
      have lb := hD4.lt
      go_upto_region 5 with (fail)
      refine wp_region_tail 15 ?_ (by kernel_rfl) (by kernel_rfl) (by kernel_rfl) (fun x => ?_) (fun x => ?_)
      rotate_left
      · simp only [List.take_succ_cons, List.take_zero]
        repeat (go_big_quiet_step (((first | with_reducible exact kO.quiet _ | with_reducible exact kO.quiet2 _ _ | with_reducible exact kO2.quiet _ | with_reducible exact kO2.quiet2 _ _ | with_reducible exact kB.quiet _ | with_reducible exact kB.quiet2 _ _))))
        refine wpQuiet_nil ?_
        exact rfl
      simp only [List.drop_succ_cons, List.drop_zero]
      try simp only [Act.put, List.setIfInBounds_toArray, List.set_cons_succ, List.set_cons_zero]
      obtain ⟨hW5, k5⟩ : WebT (grow w4 x) base g B r R P (T ++ numT P done) sv (fun b => X b ∨ b = b3) ∧ KX (fun b => X b ∨ b = b3) w4 (grow w4 x) := hW4.below (x.kept w4)
      have cT := tri_T hW5 (outS k rk i, outS k rk (i + 1), besS k t R) h3 hlT
      replace cT := Lib.hid cT
      go_wp2_with (first | (go_at_call 94; (with_reducible refine cT.out.mono ?_); rintro e w6 ⟨rfl, k6, hW6⟩) | fail)
      go_roundw
      case rel =>
        refine ⟨i + 1, t, done ++ [(outS k rk i, outS k rk (i + 1), besS k t R)], by go_num, by go_num, by omega, by omega, by omega, Lib.hid ?_, ?_, kk4.trans (k5.trans k6)⟩
        · rw [← hdone.out, hst.out, List.append_assoc]; rfl
        · rw [show numT P (done ++ [(outS k rk i, outS k rk (i + 1), besS k t R)]) = numT P done ++ numT P [(outS k rk i, outS k rk (i + 1), besS k t R)] by simp [numT], ← List.append_assoc]
          exact hW6
      case measure => simp [intOf]; omega
    · have f1 : (i : Int) < (rk : Int) := by omega
      have f2 : ((t : Int) == (R : Int) - 1) = false := by simp; omega
      have f2b : (t : Int) < (R : Int) - 1 := by omega
      have f3 : (2 * (i : Int) + 1) * (R : Int) ≤ (2 * (t : Int) + 1) * (rk : Int) := by exact_mod_cast hcmp
      have hgo : goA rk R i t := ⟨by omega, .inr hcmp⟩
      have hst := stp_A (k := k) hgo
      have h3 : in3 P (outS k rk i, outS k rk (i + 1), besS k t R) := hP.out _ (by rw [← hdone.out, hst]; simp)
      have hlT : (T ++ numT P done).length < 100000 := by
        have := congrArg List.length hdone.out
        rw [List.length_append, strip_len] at this
        simp [numT]; omega
      have kO := souter_G k rk i hk hr1 (by omega) hr2
      have kB := sbeside_G k t R hk (by omega) (by omega) hR2 (rk : Int)
      have kO2 := souter_G k rk (i + 1) hk hr1 (by omega) hr2
      rw [show ((i + 1 : Nat) : Int) = (i : Int) + 1 by omega] at kO2
      replace hst := Lib.hid hst
      replace ht2 := Lib.hid ht2
      replace hi2 := Lib.hid hi2
      clear hgo
      go_upto_region 4 with (fail)
      refine wp_region_grow (by kernel_rfl) (by kernel_rfl) ?_
      repeat (go_big_quiet_step (((fail))))
      refine wpQuiet_nil ?_
      rintro _ ⟨xg, rfl⟩
      obtain ⟨hW4, k4⟩ : WebT (grow wr xg) base g B r R P (T ++ numT P done) sv (fun b => X b ∨ b = b3) ∧ KX (fun b => X b ∨ b = b3) wr (grow wr xg) := hWr.below (xg.kept _)
      generalize grow wr xg = w4 at *
      have kk4 := kWr.trans k4
      have hD4 : Blk w4 b3 109 #[.int .i64 (k : Int), .int .i64 (rk : Int)] := (k4.block b3 (.inr rfl)).trans hDr
      clear m8 lg d0 d1 lb hWr kWr hDr k4
      have m8 := hW4.most.1
      have lg := hW4.most.2
      have d0 : w4.cell? ⟨b3, 0, none⟩ = some (.int .i64 (k : Int)) := hD4.cell 0
      have d1 : w4.cell? ⟨b3, 1, none⟩ = some (.int .i64 (rk : Int)) := hD4.cell 1
      have lb := hD4.lt
      go_upto_region 5 with (fail)
      refine wp_region_tail 15 ?_ (by kernel_rfl) (by kernel_rfl) (by kernel_rfl) (fun x => ?_) (fun x => ?_)
      rotate_left
      · simp only [List.take_succ_cons, List.take_zero]
        repeat (go_big_quiet_step (((first | with_reducible exact kO.quiet _ | with_reducible exact kO.quiet2 _ _ | with_reducible exact kO2.quiet _ | with_reducible exact kO2.quiet2 _ _ | with_reducible exact kB.quiet _ | with_reducible exact kB.quiet2 _ _))))
        refine wpQuiet_nil ?_
        exact rfl
      simp only [List.drop_succ_cons, List.drop_zero]
      try simp only [Act.put, List.setIfInBounds_toArray, List.set_cons_succ, List.set_cons_zero]
      obtain ⟨hW5, k5⟩ : WebT (grow w4 x) base g B r R P (T ++ numT P done) sv (fun b => X b ∨ b = b3) ∧ KX (fun b => X b ∨ b = b3) w4 (grow w4 x) := hW4.below (x.kept w4)
      have cT := tri_T hW5 (outS k rk i, outS k rk (i + 1), besS k t R) h3 hlT
      replace cT := Lib.hid cT
      go_wp2_with (first | (go_at_call 94; (with_reducible refine cT.out.mono ?_); rintro e w6 ⟨rfl, k6, hW6⟩) | fail)
      go_roundw
      case rel =>
        refine ⟨i + 1, t, done ++ [(outS k rk i, outS k rk (i + 1), besS k t R)], by go_num, by go_num, by omega, by omega, by omega, Lib.hid ?_, ?_, kk4.trans (k5.trans k6)⟩
        · rw [← hdone.out, hst.out, List.append_assoc]; rfl
        · rw [show numT P (done ++ [(outS k rk i, outS k rk (i + 1), besS k t R)]) = numT P done ++ numT P [(outS k rk i, outS k rk (i + 1), besS k t R)] by simp [numT], ← List.append_assoc]
          exact hW6
      case measure => simp [intOf]; omega
    · have f1 : (i : Int) < (rk : Int) := by omega
      have f2 : ((t : Int) == (R : Int) - 1) = false := by simp; omega
      have f2b : (t : Int) < (R : Int) - 1 := by omega
      have f3 : ¬ ((2 * (i : Int) + 1) * (R : Int) ≤ (2 * (t : Int) + 1) * (rk : Int)) := by exact_mod_cast hcmp
      have hgo : ¬ goA rk R i t := fun h => h.2.elim (fun h => by omega) hcmp
      have hst := stp_B (k := k) hgo (by omega)
      have h3 : in3 P (outS k rk i, besS k (t + 1) R, besS k t R) := hP.out _ (by rw [← hdone.out, hst]; simp)
      have hlT : (T ++ numT P done).length < 100000 := by
        have := congrArg List.length hdone.out
        rw [List.length_append, strip_len] at this
        simp [numT]; omega
      have kO := souter_G k rk i hk hr1 (by omega) hr2
      have kB := sbeside_G k t R hk (by omega) (by omega) hR2 (rk : Int)
      have kB2 := sbeside_G k (t + 1) R hk (by omega) (by omega) hR2 (rk : Int)
      rw [show ((t + 1 : Nat) : Int) = (t : Int) + 1 by omega] at kB2
      replace hst := Lib.hid hst
      replace ht2 := Lib.hid ht2
      replace hi2 := Lib.hid hi2
      clear hgo
      go_upto_region 4 with (fail)
      refine wp_region_grow (by kernel_rfl) (by kernel_rfl) ?_
      repeat (go_big_quiet_step (((fail))))
      refine wpQuiet_nil ?_
      rintro _ ⟨xg, rfl⟩
      obtain ⟨hW4, k4⟩ : WebT (grow wr xg) base g B r R P (T ++ numT P done) sv (fun b => X b ∨ b = b3) ∧ KX (fun b => X b ∨ b = b3) wr (grow wr xg) := hWr.below (xg.kept _)
      generalize grow wr xg = w4 at *
      have kk4 := kWr.trans k4
      have hD4 : Blk w4 b3 109 #[.int .i64 (k : Int), .int .i64 (rk : Int)] := (k4.block b3 (.inr rfl)).trans hDr
      clear m8 lg d0 d1 lb hWr kWr hDr k4
      have m8 := hW4.most.1
      have lg := hW4.most.2
      have d0 : w4.cell? ⟨b3, 0, none⟩ = some (.int .i64 (k : Int)) := hD4.cell 0
      have d1 : w4.cell? ⟨b3, 1, none⟩ = some (.int .i64 (rk : Int)) := hD4.cell 1
      have lb := hD4.lt
      go_upto_region 7 with (fail)
      refine wp_region_tail 19 ?_ (by kernel_rfl) (by kernel_rfl) (by kernel_rfl) (fun x => ?_) (fun x => ?_)
      rotate_left
      · simp only [List.take_succ_cons, List.take_zero]
        repeat (go_big_quiet_step (((first | with_reducible exact kO.quiet _ | with_reducible exact kO.quiet2 _ _ | with_reducible exact kB2.quiet _ | with_reducible exact kB2.quiet2 _ _ | with_reducible exact kB.quiet _ | with_reducible exact kB.quiet2 _ _))))
        refine wpQuiet_nil ?_
        exact rfl
      simp only [List.drop_succ_cons, List.drop_zero]
      try simp only [Act.put, List.setIfInBounds_toArray, List.set_cons_succ, List.set_cons_zero]
      obtain ⟨hW5, k5⟩ : WebT (grow w4 x) base g B r R P (T ++ numT P done) sv (fun b => X b ∨ b = b3) ∧ KX (fun b => X b ∨ b = b3) w4 (grow w4 x) := hW4.below (x.kept w4)
      have cT := tri_T hW5 (outS k rk i, besS k (t + 1) R, besS k t R) h3 hlT
      replace cT := Lib.hid cT
      go_wp2_with (first | (go_at_call 94; (with_reducible refine cT.out.mono ?_); rintro e w6 ⟨rfl, k6, hW6⟩) | fail)
      go_roundw
      case rel =>
        refine ⟨i, t + 1, done ++ [(outS k rk i, besS k (t + 1) R, besS k t R)], by go_num, by go_num, by omega, by omega, by omega, Lib.hid ?_, ?_, kk4.trans (k5.trans k6)⟩
        · rw [← hdone.out, hst.out, List.append_assoc]; rfl
        · rw [show numT P (done ++ [(outS k rk i, besS k (t + 1) R, besS k t R)]) = numT P done ++ numT P [(outS k rk i, besS k (t + 1) R, besS k t R)] by simp [numT], ← List.append_assoc]
          exact hW6
      case measure => simp [intOf]; omega
    · have f1 : ¬ ((i : Int) < (rk : Int)) := by omega
      have f2b : (t : Int) < (R : Int) - 1 := by omega
      have hgo : ¬ goA rk R i t := fun h => by have := h.1; omega
      have hst := stp_B (k := k) hgo (by omega)
      have h3 : in3 P (outS k rk i, besS k (t + 1) R, besS k t R) := hP.out _ (by rw [← hdone.out, hst]; simp)
      have hlT : (T ++ numT P done).length < 100000 := by
        have := congrArg List.length hdone.out
        rw [List.length_append, strip_len] at this
        simp [numT]; omega
      have kO := souter_G k rk i hk hr1 (by omega) hr2
      have kB := sbeside_G k t R hk (by omega) (by omega) hR2 (rk : Int)
      have kB2 := sbeside_G k (t + 1) R hk (by omega) (by omega) hR2 (rk : Int)
      rw [show ((t + 1 : Nat) : Int) = (t : Int) + 1 by omega] at kB2
      replace hst := Lib.hid hst
      replace ht2 := Lib.hid ht2
      replace hi2 := Lib.hid hi2
      clear hgo
      go_upto_region 4 with (fail)
      refine wp_region_grow (by kernel_rfl) (by kernel_rfl) ?_
      repeat (go_big_quiet_step (((fail))))
      refine wpQuiet_nil ?_
      rintro _ ⟨xg, rfl⟩
      obtain ⟨hW4, k4⟩ : WebT (grow wr xg) base g B r R P (T ++ numT P done) sv (fun b => X b ∨ b = b3) ∧ KX (fun b => X b ∨ b = b3) wr (grow wr xg) := hWr.below (xg.kept _)
      generalize grow wr xg = w4 at *
      have kk4 := kWr.trans k4
      have hD4 : Blk w4 b3 109 #[.int .i64 (k : Int), .int .i64 (rk : Int)] := (k4.block b3 (.inr rfl)).trans hDr
      clear m8 lg d0 d1 lb hWr kWr hDr k4
      have m8 := hW4.most.1
      have lg := hW4.most.2
      have d0 : w4.cell? ⟨b3, 0, none⟩ = some (.int .i64 (k : Int)) := hD4.cell 0
      have d1 : w4.cell? ⟨b3, 1, none⟩ = some (.int .i64 (rk : Int)) := hD4.cell 1
      have lb := hD4.lt
      go_upto_region 7 with (fail)
      refine wp_region_tail 19 ?_ (by kernel_rfl) (by kernel_rfl) (by kernel_rfl) (fun x => ?_) (fun x => ?_)
      rotate_left
      · simp only [List.take_succ_cons, List.take_zero]
        repeat (go_big_quiet_step (((first | with_reducible exact kO.quiet _ | with_reducible exact kO.quiet2 _ _ | with_reducible exact kB2.quiet _ | with_reducible exact kB2.quiet2 _ _ | with_reducible exact kB.quiet _ | with_reducible exact kB.quiet2 _ _))))
        refine wpQuiet_nil ?_
        exact rfl
      simp only [List.drop_succ_cons, List.drop_zero]
      try simp only [Act.put, List.setIfInBounds_toArray, List.set_cons_succ, List.set_cons_zero]
      obtain ⟨hW5, k5⟩ : WebT (grow w4 x) base g B r R P (T ++ numT P done) sv (fun b => X b ∨ b = b3) ∧ KX (fun b => X b ∨ b = b3) w4 (grow w4 x) := hW4.below (x.kept w4)
      have cT := tri_T hW5 (outS k rk i, besS k (t + 1) R, besS k t R) h3 hlT
      replace cT := Lib.hid cT
      go_wp2_with (first | (go_at_call 94; (with_reducible refine cT.out.mono ?_); rintro e w6 ⟨rfl, k6, hW6⟩) | fail)
      go_roundw
      case rel =>
        refine ⟨i, t + 1, done ++ [(outS k rk i, besS k (t + 1) R, besS k t R)], by go_num, by go_num, by omega, by omega, by omega, Lib.hid ?_, ?_, kk4.trans (k5.trans k6)⟩
        · rw [← hdone.out, hst.out, List.append_assoc]; rfl
        · rw [show numT P (done ++ [(outS k rk i, besS k (t + 1) R, besS k t R)]) = numT P done ++ numT P [(outS k rk i, besS k (t + 1) R, besS k t R)] by simp [numT], ← List.append_assoc]
          exact hW6
      case measure => simp [intOf]; omega
    · have hnil : stpS k rk R (leftS rk R i t) i t = [] := by
        have : leftS rk R i t = 0 := by unfold leftS; omega
        rw [this]; rfl
      have hfin := hdone.out
      rw [hnil, List.append_nil] at hfin
      replace hfin := Lib.hid hfin
      have f1 : ¬ ((i : Int) < (rk : Int)) := by omega
      have f2b : ¬ ((t : Int) < (R : Int) - 1) := by omega
      clear hnil
      replace ht2 := Lib.hid ht2
      replace hi2 := Lib.hid hi2
      go_wp2
      refine bodyPost_end (v := .tuple #[]) (by simp [results, Try.results82, go_sem]) rfl ⟨rfl, kW2.trans (kWr.less fun b hb => .inl hb), ?_⟩
      rw [← hfin.out]
      exact hWr.less fun b hb => .inl hb
end Go.Proofs.Ytpaehkjnefgaiaa
namespace Go.Proofs.Ytpaehkjnefgaiaa
open Go.RowKit
set_option linter.unusedVariables false
set_option linter.unusedSimpArgs false
set_option linter.unnecessarySimpa false
set_option maxRecDepth 100000
def sumR (r : Nat → Nat) : Nat → Nat
  | 0 => 0
  | k + 1 => sumR r k + r k
theorem run_makeMap_hint {t k e : TypeId} (hu : Try.prog.underlying t = some (.map k e)) (n : Int) (w : World) : (Instr.makeMap t (some (.int .i64 n))).run Try.prog w = .ok (.map (some w.heap.size)) (w.alloc (.map #[] 0)) := by
  simp [Instr.makeMap, run_underlying hu, asInt, asIntOf, Result.andThen]
theorem sumR_le {r : Nat → Nat} : ∀ n, n ≤ 4 → (∀ k, k < 4 → r k ≤ 16) → sumR r n ≤ n * 16
  | 0, _, _ => Nat.le_refl _
  | n + 1, hn, h => by
    have := sumR_le n (by omega) h
    have := h n (by omega)
    show sumR r n + r n ≤ _
    omega
/-- A web's cells: the sides' parts at their places. -/
theorem web_part {W : World} {g : Nat} {t : TypeId} {r : Nat → Nat} {x y z u : Value} (h : Blk W g t #[.int .i64 0, .int .i64 (r 0 : Int), .int .i64 1, .int .i64 (r 1 : Int), .int .i64 2, .int .i64 (r 2 : Int), .int .i64 3, .int .i64 (r 3 : Int), x, y, z, u]) (k : Nat) (hk : k < 4) :
    W.cell? ⟨g, k * 2 + 1, none⟩ = some (.int .i64 (r k : Int)) ∧ W.cell? ⟨g, k * 2, none⟩ = some (.int .i64 (k : Int)) := by
  rcases four1 hk with rfl | rfl | rfl | rfl
  · exact ⟨h.cell 1, h.cell 0⟩
  · exact ⟨h.cell 3, h.cell 2⟩
  · exact ⟨h.cell 5, h.cell 4⟩
  · exact ⟨h.cell 7, h.cell 6⟩
@[reducible] def webE (r : Nat → Nat) (R : Nat) : Array Value := #[.int .i64 0, .int .i64 (r 0 : Int), .int .i64 1, .int .i64 (r 1 : Int), .int .i64 2, .int .i64 (r 2 : Int), .int .i64 3, .int .i64 (r 3 : Int), .int .i64 (R : Int), .slice none 0 0, .map none, .slice none 0 0]
set_option maxHeartbeats 2000000 in
theorem room_any (W : World) (g : Nat) (r : Nat → Nat) (R : Nat) (X : Nat → Prop) (hG : Blk W g 113 (webE r R)) (hr : ∀ k, k < 4 → 1 ≤ r k ∧ r k ≤ 16) (hR : 1 ≤ R) (hR2 : R ≤ 16) (hX : ∀ b, X b → b < W.heap.size ∧ b ≠ g) :
    Calls Try.prog 66 #[.pointer (some ⟨g, 0, none⟩)] W fun e W' => e = .returned (.tuple #[]) ∧ KX X W W' ∧ ∃ base B sv tv, W.heap.size ≤ base ∧ WebB W' base g B r R [] [] [] sv tv X := by
  have q1 : 0 ≤ ((R : Int) - 1) * ((R : Int) - 1) ∧ ((R : Int) - 1) * ((R : Int) - 1) ≤ 225 := by
    have e : ((R : Int) - 1) * ((R : Int) - 1) = (((R - 1) * (R - 1) : Nat) : Int) := by
      rw [Int.natCast_mul, show ((R - 1 : Nat) : Int) = (R : Int) - 1 by omega]
    have e2 : (R - 1) * (R - 1) ≤ 15 * 15 := Nat.mul_le_mul (by omega) (by omega)
    omega
  obtain ⟨q1a, q1b⟩ := q1
  obtain ⟨iw, hw⟩ : ∃ n : Nat, ((R : Int) - 1) * ((R : Int) - 1) = (n : Int) := ⟨(((R : Int) - 1) * ((R : Int) - 1)).toNat, by omega⟩
  have hi2 : iw ≤ 225 := by omega
  obtain ⟨i0, hi0, hz0, hz1, hz2⟩ := info_ofW infoSp
  obtain ⟨j0, hj0, hy0, hy1, hy2⟩ := info_ofW infoTr
  have c8 : W.cell? ⟨g, 8, none⟩ = some (.int .i64 (R : Int)) := hG.cell 8
  have lg := hG.lt
  replace hr := Lib.hid hr
  go_enter Try.func66, Try.ntmps66
  go_upto_region 0 with (fail)
  refine wp_region_grow (by kernel_rfl) (by kernel_rfl) ?_
  repeat (go_big_quiet_step (((fail))))
  refine wpQuiet_nil ?_
  rintro _ ⟨xg, rfl⟩
  have hG0 := hG.grow xg
  have k0 : KX X W (grow W xg) := KX.of (fun b hb => (hX b hb).1) (xg.kept W)
  have hs0 : W.heap.size ≤ (grow W xg).heap.size := (xg.kept W).size
  generalize grow W xg = w0 at *
  clear c8 lg
  replace hw := Lib.hid hw
  have hmm := run_makeMap_hint Try.underlying111
  have hlo : ∀ k, k < 4 → 1 ≤ sumR r (k + 1) := fun k hk => by
    have := (hr.out k hk).1
    show 1 ≤ sumR r k + r k
    omega
  have hso : sumR r 4 ≤ 64 := sumR_le 4 (by omega) (fun k hk => (hr.out k hk).2)
  have hs4 : 4 ≤ sumR r 4 := by
    have h0 := (hr.out 0 (by omega)).1
    have h1 := (hr.out 1 (by omega)).1
    have h2 := (hr.out 2 (by omega)).1
    have h3 := (hr.out 3 (by omega)).1
    show 4 ≤ 0 + r 0 + r 1 + r 2 + r 3
    omega
  go_upto_region 1 with (fail)
  go_wp2
  go_loopw [16, 2] (fun kv av wr => ∃ k : Nat, kv = .int .i64 (k : Int) ∧ av = .int .i64 (sumR r k : Int) ∧ k ≤ 4 ∧ Blk wr g 113 (webE r R) ∧ KX X W wr) (fun kv _ _ => 4 - (intOf kv).toNat)
  case atStart => exact ⟨0, rfl, rfl, by omega, hG0, k0⟩
  case round =>
    obtain ⟨k, rfl, rfl, hk, hGr, kr⟩ := hrel
    have hsk : sumR r k ≤ 64 := Nat.le_trans (sumR_le k hk (fun k hk => (hr.out k hk).2)) (by omega)
    by_cases hk4 : k < 4
    · have hc := (web_part hGr k hk4).1
      have lg := hGr.lt
      have hrk := hr.out k hk4
      have e2 : sumR r (k + 1) = sumR r k + r k := rfl
      generalize r k = rk at *
      have q0 : (0 : Int) ≤ (k : Int) := by omega
      have q9 : (k : Int) < 4 := by omega
      replace e2 := Lib.hid e2
      go_wp2
      go_roundw
      case rel => exact ⟨k + 1, by go_num, by rw [e2.out]; go_num, by omega, hGr, kr⟩
      case measure => simp [intOf]; omega
    · obtain rfl : k = 4 := by omega
      have hszr := kr.size
      have lgr := hGr.lt
      rw [show ((4 : Nat) : Int) = 4 from rfl]
      generalize sumR r 4 = su at *
      clear hG0 k0 hs0
      go_upto_region 6 with (fail)
      have c10 : wr.cell? ⟨g, 10, none⟩ = some (.map none) := hGr.cell 10
      have fz := hGr.frozen
      go_upto_region 7 with (fail)
      obtain ⟨B, hB⟩ : ∃ B, B = wr.heap.size := ⟨_, rfl⟩
      have hsz5 : (wr.setCell ⟨g, 10, none⟩ (.map (some wr.heap.size))).heap.size = wr.heap.size := by simp [World.setCell]
      have hm6 : SpM ((wr.setCell ⟨g, 10, none⟩ (.map (some wr.heap.size))).alloc (.map #[] 0)) wr.heap.size [] := by
        have := SpM.made (wr.setCell ⟨g, 10, none⟩ (.map (some wr.heap.size)))
        rw [hsz5] at this
        exact this
      have hG6 : Blk ((wr.setCell ⟨g, 10, none⟩ (.map (some wr.heap.size))).alloc (.map #[] 0)) g 113 #[.int .i64 0, .int .i64 (r 0 : Int), .int .i64 1, .int .i64 (r 1 : Int), .int .i64 2, .int .i64 (r 2 : Int), .int .i64 3, .int .i64 (r 3 : Int), .int .i64 (R : Int), .slice none 0 0, .map (some wr.heap.size), .slice none 0 0] := (hGr.set 10 _).alloc _
      have k5 : KX X W (wr.setCell ⟨g, 10, none⟩ (.map (some wr.heap.size))) := kr.trans (KX.grown (fun b hb => ⟨by have := (hX b hb).1; omega, by intro e; cases e; exact (hX _ hb).2 rfl⟩) (setW_grown _ _ _ _))
      have k6 : KX X W ((wr.setCell ⟨g, 10, none⟩ (.map (some wr.heap.size))).alloc (.map #[] 0)) := k5.trans (KX.of (fun b hb => by have := (hX b hb).1; rw [hsz5]; omega) (bel_alloc (Below.refl _ _) _))
      have s6 : wr.heap.size < ((wr.setCell ⟨g, 10, none⟩ (.map (some wr.heap.size))).alloc (.map #[] 0)).heap.size := by rw [World.size_alloc, hsz5]; omega
      clear hsz5 k5
      generalize (wr.setCell ⟨g, 10, none⟩ (.map (some wr.heap.size))).alloc (.map #[] 0) = w6 at *
      rw [← hB] at hm6 hG6 s6 ⊢
      have hBg : B ≠ g := by omega
      have hBl : W.heap.size ≤ B := by omega
      clear hB hGr kr c10 fz lgr
      obtain ⟨base, hbase⟩ : ∃ b, b = w6.heap.size := ⟨_, rfl⟩
      have lg6 := hG6.lt
      have c9 : w6.cell? ⟨g, 9, none⟩ = some (.slice none 0 0) := hG6.cell 9
      have c9f : w6.frozen? ⟨g, 9, none⟩ = false := hG6.frozen 9
      go_upto_region 8 with (first | ((refine wpList_make_own _ rfl _ _ _ rfl w6.heap.size 79 i0 _ 3 Try.underlying73 hi0 hz0 hz1 .i64 .i64 ((su : Int) + (iw : Int)) (su + iw) rfl rfl (by omega) (by rw [hz2]; omega) (by unfold maxLen; omega) (Nat.le_refl _) ?_); intro w7 own7 hg7; have b7 : Below w6.heap.size w6 w7 := ⟨hg7.os, hg7.tape, hg7.output, hg7.size, fun k hk => hg7.block k hk (by simp)⟩; have c9a := (hG6.below b7).cell 9; have c9b := (hG6.below b7).frozen 9; have c9l := (hG6.below b7).lt; simp only [List.getElem?_toArray, List.getElem?_cons_succ, List.getElem?_cons_zero] at c9a) | fail)
      have hG7 := hG6.below b7
      have hm7 := hm6.kept hg7 (by simp)
      have k7 := k6.trans (KX.of (fun b hb => by have := (hX b hb).1; omega) b7)
      have hG8 : Blk (w7.setCell ⟨g, 9, none⟩ (.slice (some ⟨w6.heap.size, 0, none⟩) 0 (su + iw))) g 113 #[.int .i64 0, .int .i64 (r 0 : Int), .int .i64 1, .int .i64 (r 1 : Int), .int .i64 2, .int .i64 (r 2 : Int), .int .i64 3, .int .i64 (r 3 : Int), .int .i64 (R : Int), .slice (some ⟨w6.heap.size, 0, none⟩) 0 (su + iw), .map (some B), .slice none 0 0] := hG7.set 9 _
      have hm8 := hm7.kept (setW_grown w7 g 9 (.slice (some ⟨w6.heap.size, 0, none⟩) 0 (su + iw))) (by intro e; cases e; exact hBg rfl)
      have own8 := ownW_set own7 lg6 9 (.slice (some ⟨w6.heap.size, 0, none⟩) 0 (su + iw))
      have k8 := k7.trans (KX.grown (fun b hb => ⟨by have := (hX b hb).1; have := b7.size; omega, by intro e; cases e; exact (hX _ hb).2 rfl⟩) (setW_grown w7 g 9 (.slice (some ⟨w6.heap.size, 0, none⟩) 0 (su + iw))))
      have s8 := (setW_grown w7 g 9 (.slice (some ⟨w6.heap.size, 0, none⟩) 0 (su + iw))).size
      have s7 := b7.size
      clear c9a c9b c9l
      generalize w7.setCell ⟨g, 9, none⟩ (.slice (some ⟨w6.heap.size, 0, none⟩) 0 (su + iw)) = w8 at *
      clear hG7 hm7 hG6 hm6 own7 hg7 b7 k6 k7 c9 c9f
      have lg8 := hG8.lt
      have c11 : w8.cell? ⟨g, 11, none⟩ = some (.slice none 0 0) := hG8.cell 11
      have c11f : w8.frozen? ⟨g, 11, none⟩ = false := hG8.frozen 11
      go_wp2_with (first | ((refine wpList_make_own _ rfl _ _ _ rfl w6.heap.size 60 j0 _ 3 Try.underlying36 hj0 hy0 hy1 .i64 .i64 ((su : Int) + 2 * (iw : Int) - 2) (su + 2 * iw - 2) rfl rfl (by omega) (by rw [hy2]; omega) (by unfold maxLen; omega) (by omega) ?_); intro w9 own9 hg9; have b9 : Below w8.heap.size w8 w9 := ⟨hg9.os, hg9.tape, hg9.output, hg9.size, fun k hk => hg9.block k hk (by simp)⟩; have c9a := (hG8.below b9).cell 11; have c9b := (hG8.below b9).frozen 11; have c9l := (hG8.below b9).lt; simp only [List.getElem?_toArray, List.getElem?_cons_succ, List.getElem?_cons_zero] at c9a) | fail)
      have hG9 := hG8.below b9
      have hG10 : Blk (w9.setCell ⟨g, 11, none⟩ (.slice (some ⟨w8.heap.size, 0, none⟩) 0 (su + 2 * iw - 2))) g 113 (webC r R B (.slice (some ⟨w6.heap.size, 0, none⟩) 0 (su + iw)) (.slice (some ⟨w8.heap.size, 0, none⟩) 0 (su + 2 * iw - 2))) := hG9.set 11 _
      have hm10 := (hm8.kept hg9 (by simp)).kept (setW_grown w9 g 11 (.slice (some ⟨w8.heap.size, 0, none⟩) 0 (su + 2 * iw - 2))) (by intro e; cases e; exact hBg rfl)
      have sp10 := ownW_set (ownW_lay own8 b9) lg6 11 (.slice (some ⟨w8.heap.size, 0, none⟩) 0 (su + 2 * iw - 2))
      have tr10 := ownW_set own9 lg6 11 (.slice (some ⟨w8.heap.size, 0, none⟩) 0 (su + 2 * iw - 2))
      have s9 := b9.size
      have k9 := k8.trans (KX.of (fun b hb => by have := (hX b hb).1; omega) b9)
      have k10 := k9.trans (KX.grown (fun b hb => ⟨by have := (hX b hb).1; omega, by intro e; cases e; exact (hX _ hb).2 rfl⟩) (setW_grown w9 g 11 (.slice (some ⟨w8.heap.size, 0, none⟩) 0 (su + 2 * iw - 2))))
      have s10 := (setW_grown w9 g 11 (.slice (some ⟨w8.heap.size, 0, none⟩) 0 (su + 2 * iw - 2))).size
      have own7l : w6.heap.size < w8.heap.size := (ownW_block own8 _ rfl).2
      clear c9a c9b c9l c11 c11f hG8 hG9 hm8 own8 own9 hg9 b9 k8 k9
      refine bodyPost_end (v := .tuple #[]) (by simp [results, Try.results66, go_sem]) rfl ⟨rfl, k10, w6.heap.size, B, _, _, by omega, hG10, lg6, s6, hBg, by omega, sp10, tr10, ?_, hm10, fun b hb => ⟨?_, (hX b hb).2, ?_, ?_, ?_⟩⟩
      · intro k e1 e2
        simp only [Value.ownBlock, Option.some.injEq] at e1 e2
        omega
      · have := (hX b hb).1; omega
      · have := (hX b hb).1; omega
      · intro e
        simp only [Value.ownBlock, Option.some.injEq] at e
        have := (hX b hb).1; omega
      · intro e
        simp only [Value.ownBlock, Option.some.injEq] at e
        have := (hX b hb).1; omega
end Go.Proofs.Ytpaehkjnefgaiaa
