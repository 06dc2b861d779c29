/- The maps of package topo: which face goes along each way; of each vertex the last face that it was met in. -/
import Derived.Maps.OwnOps
import Derived.Maps.OwnSet
import Derived.Maps.RangeWalk
import Derived.DeepKeys4
import Derived.Test.YtbehobojgeganaaProg
import Derived.Test.YtbehobojgeganaaBase
import Derived.Test.YtbehobojgeganaaTopF
namespace Go.Proofs.Ytbehobojgeganaa
open Go.RowKit
set_option linter.unusedVariables false
set_option linter.unusedSimpArgs false
set_option linter.unnecessarySimpa false
set_option maxRecDepth 100000
def i64B (x : Int) : Prop := -9223372036854775808 ≤ x ∧ x ≤ 9223372036854775807
theorem i64B.wf {x : Int} (h : i64B x) : (Lit.int .i64 x).wf = true := by
  unfold i64B at h
  simp only [Lit.wf, IntKind.min, IntKind.max, IntKind.bits, IntKind.signed, Bool.and_eq_true, decide_eq_true_eq]
  simp
  omega
theorem wideW : (match Try.prog.underlying 88 with | some (.array _ _) | some (.struct _) => true | _ => false) = true := by kernel_rfl
theorem lawW : Maps.Keyed Try.prog 88 := Maps.Keyed.of_law (deep_law_laid (m := 2) (by kernel_rfl) (by omega) (of_decide_eq_true (by kernel_rfl)) (by kernel_rfl) wideW)
theorem lawI : Maps.Keyed Try.prog 3 := Maps.int_keyed Try.underlying3
theorem keyTW : Try.prog.keyType 88 = true := by kernel_rfl
/-- A way as a key. -/
def wayV (a b : Int) : Value := .agg #[.int .i64 a, .int .i64 b]
def keyL (a b : Int) : Lit := .string (keyBytes [.int .i64 a, .int .i64 b])
theorem keyW {a b : Int} (ha : i64B a) (hb : i64B b) : keyOf Try.prog 88 (wayV a b) = some (keyL a b) := by
  have hw1 := ha.wf
  have hw2 := hb.wf
  have hf : (wayV a b).formed Try.prog 88 = true := by
    unfold wayV; simp only [Value.formed, Try.underlying88]; kernel_rfl
  obtain ⟨m, hm⟩ : ∃ m, Try.prog.types.size = m + 1 := ⟨Try.prog.types.size - 1, by kernel_rfl⟩
  have c1 : Try.prog.cellsOf 88 = 2 := by kernel_rfl
  have c2 : Try.prog.cellsOf 3 = 1 := by kernel_rfl
  unfold keyOf
  rw [Try.underlying88]
  simp only [keyTW, hf, Bool.and_self, if_true, hm]
  simp only [wayV, Value.cells, Program.keyLits, Try.underlying88, c1, c2, Try.underlying3]
  simp [hw1, hw2, c2, Try.underlying3, Program.keyLits, keyL]
theorem keyL_inj {a b c d : Int} (ha : i64B a) (hb : i64B b) (hc : i64B c) (hd : i64B d) (h : keyL a b = keyL c d) : a = c ∧ b = d := by
  have h1 := keyW ha hb
  have h2 := keyW hc hd
  rw [h] at h1
  have := lawW.inj h1 h2
  simpa [wayV] using this
theorem lits_int {m : Nat} {u : Value} {l : List Lit} (h : Try.prog.keyLits (m + 1) 3 [u] = some l) : ∃ n : Int, u = .int .i64 n ∧ i64B n ∧ l = [.int .i64 n] := by
  unfold Program.keyLits at h
  rw [Try.underlying3] at h
  cases u <;> simp at h
  rename_i q n
  obtain ⟨⟨rfl, hw⟩, rfl⟩ := h
  refine ⟨n, rfl, ?_, rfl⟩
  unfold i64B
  simp only [Lit.wf, IntKind.min, IntKind.max, IntKind.bits, IntKind.signed, Bool.and_eq_true, decide_eq_true_eq] at hw
  simp at hw
  omega
theorem key_inv {v : Value} {l : Lit} (h : keyOf Try.prog 88 v = some l) : ∃ a b : Int, v = wayV a b ∧ i64B a ∧ i64B b ∧ l = keyL a b := by
  obtain ⟨xs, L, rfl, hk, rfl⟩ := keyOf_top wideW h
  obtain ⟨m, hm⟩ : ∃ m, Try.prog.types.size = m + 1 := ⟨Try.prog.types.size - 1, by kernel_rfl⟩
  have c1 : Try.prog.cellsOf 88 = 2 := by kernel_rfl
  have c2 : Try.prog.cellsOf 3 = 1 := by kernel_rfl
  rw [hm] at hk
  unfold Program.keyLits at hk
  rw [Try.underlying88] at hk
  simp only [c1] at hk
  split at hk
  · rename_i hl
    obtain ⟨u, v, e⟩ : ∃ u v, xs.toList = [u, v] := by
      have := hl.1
      match h : xs.toList, this with
      | [u, v], _ => exact ⟨u, v, rfl⟩
    have exs : xs = #[u, v] := Array.ext' (by rw [e])
    subst exs
    rw [List.mapM_cons, List.mapM_cons, List.mapM_nil] at hk
    simp only [c2, List.take_succ_cons, List.take_zero, List.drop_zero, List.drop_succ_cons] at hk
    cases h1 : Try.prog.keyLits (m + 1) 3 [u] with
    | none => simp [h1] at hk
    | some l1 =>
      cases h2 : Try.prog.keyLits (m + 1) 3 [v] with
      | none => simp [h1, h2] at hk
      | some l2 =>
        obtain ⟨n1, rfl, r1, rfl⟩ := lits_int h1
        obtain ⟨n2, rfl, r2, rfl⟩ := lits_int h2
        simp [h1, h2] at hk
        subst hk
        exact ⟨n1, n2, rfl, r1, r2, rfl⟩
  · cases hk
/-- What an element reads as. -/
def goR (v : Value) : Option (DataW Unit × List MemPlace) :=
  match v with
  | .agg xs => match xs.toList with
    | [.int .i64 x, .int .i64 y] => some (.agg [.lit (.int .i64 x), .lit (.int .i64 y)], [])
    | _ => none
  | _ => none
def goV (f c : Int) : Value := .agg #[.int .i64 f, .int .i64 c]
def goD (f c : Int) : DataW Unit := .agg [.lit (.int .i64 f), .lit (.int .i64 c)]
theorem goR_mk (f c : Int) : goR (goV f c) = some (goD f c, []) := rfl
theorem goR_inv {v : Value} {y : DataW Unit × List MemPlace} (h : goR v = some y) : ∃ p : Int × Int, v = goV p.1 p.2 ∧ y = (goD p.1 p.2, []) := by
  unfold goR at h
  split at h
  · rename_i xs
    split at h
    · rename_i x y e
      refine ⟨(x, y), ?_, (Option.some.inj h).symm⟩
      have : xs = #[.int .i64 x, .int .i64 y] := Array.ext' (by rw [e])
      rw [this]; rfl
    · cases h
  · cases h
theorem goD_inj {f c f' c' : Int} (h : goD f c = goD f' c') : f = f' ∧ c = c' := by
  unfold goD at h; simpa using h
theorem zeroG (w : World) : (zeroValue 104).run Try.prog w = .ok (goV 0 0) w := by kernel_rfl
theorem zeroI (w : World) : (zeroValue 3).run Try.prog w = .ok (.int .i64 0) w := by kernel_rfl
/-- The datum of a map reads as these ways. -/
structure GoD (D : DataW Unit) (P : List Way) : Prop where
  rng : ∀ w ∈ P, i64B w.a ∧ i64B w.b
  has : ∀ a b, i64B a → i64B b → Maps.has D (keyL a b) = (look P a b).isSome
  val : ∀ a b w, i64B a → i64B b → look P a b = some w → ∀ zd, D.atKey (keyL a b) zd = goD w.f w.c
def GoM (W : World) (B : Nat) (P : List Way) : Prop := ∃ D : DataW Unit, W.ownsMap Try.prog 88 goR B P.length D ∧ GoD D P
theorem GoM.made (W : World) : GoM (W.alloc (.map #[] 0)) W.heap.size [] := ⟨.map [], World.ownsMap_made _ _ _ _, by simp, fun a b _ _ => rfl, fun a b w _ _ h => by simp [look] at h⟩
theorem GoM.kept {W W' : World} {B : Nat} {P : List Way} {row : Option Nat} (h : GoM W B P) (hg : W.grownBy W' row) (hne : some B ≠ row) : GoM W' B P := by
  obtain ⟨D, h1, h2⟩ := h; exact ⟨D, h1.kept hg hne, h2⟩
theorem GoM.lt {W : World} {B : Nat} {P : List Way} (h : GoM W B P) : B < W.heap.size := by
  obtain ⟨D, h1, h2⟩ := h; exact h1.lt
def gF (o : Option Way) : Int := (o.map Way.f).getD 0
def gC (o : Option Way) : Int := (o.map Way.c).getD 0
theorem look_snoc (P : List Way) (w : Way) (a b : Int) (hn : look P w.a w.b = none) : look (P ++ [w]) a b = if a = w.a ∧ b = w.b then some w else look P a b := by
  unfold look at *
  rw [List.find?_append]
  split
  · rename_i e
    rw [e.1, e.2, hn]; simp
  · rename_i e
    have : (List.find? (fun x => x.a == a && x.b == b) [w]) = none := by
      simp only [List.find?_singleton]
      rw [if_neg]
      simp only [Bool.and_eq_true, beq_iff_eq]
      exact fun h => e ⟨h.1.symm, h.2.symm⟩
    rw [this]; simp
section
variable {ops : Array Oper} {rest : List Oper} {o : Oper} {a : Act} {Q : Exit → Act → World → Prop}
theorem wpL_look_go (W : World) (hg : o.guard = none) (m x : Operand) (hop : o.op = Op.lookup 73 m x true) (B : Nat) (P : List Way) (hm : a.eval m = .map (some B)) (h : GoM W B P) (p q : Int) (hx : a.eval x = wayV p q) (hp : i64B p) (hq : i64B q)
    (hK : wpList Try.prog ops Q rest (a.put o.dst (.tuple #[.agg #[.int .i64 (gF (look P p q)), .int .i64 (gC (look P p q))], .bool (look P p q).isSome])) W) : wpList Try.prog ops Q (o :: rest) a W := by
  obtain ⟨D, ho, hd⟩ := h
  refine wpList_lookup_own_ok W hg m x _ hop 88 104 lawW Try.underlying73 goR (zeroG W) (goD 0 0) [] (goR_mk 0 0) B P.length D hm ho _ (keyL p q) hx (keyW hp hq) ?_
  intro v ps hv
  obtain ⟨⟨f, c⟩, rfl, e⟩ := goR_inv hv
  rw [hd.has p q hp hq]
  have e2 : f = gF (look P p q) ∧ c = gC (look P p q) := by
    have e1 := congrArg Prod.fst e
    simp only at e1
    cases hl : look P p q with
    | none =>
      have := hd.has p q hp hq
      rw [hl] at this
      rw [Maps.atKey_of_not_has this] at e1
      have := goD_inj e1
      exact ⟨this.1.symm, this.2.symm⟩
    | some w =>
      rw [hd.val p q w hp hq hl] at e1
      have := goD_inj e1
      exact ⟨this.1.symm, this.2.symm⟩
  show wpList Try.prog ops Q rest (a.put o.dst (.tuple #[goV f c, .bool (look P p q).isSome])) W
  rw [e2.1, e2.2]
  exact hK
theorem wpL_put_go (W : World) (hg : o.guard = none) (m x v : Operand) (hop : o.op = Op.mapUpdate 73 m x v) (B : Nat) (P : List Way) (hm : a.eval m = .map (some B)) (h : GoM W B P) (w : Way) (hx : a.eval x = wayV w.a w.b) (hv : a.eval v = goV w.f w.c)
    (hp : i64B w.a) (hq : i64B w.b) (hn : look P w.a w.b = none) (hlen : P.length < 9223372036854775807)
    (hK : ∀ W', GoM W' B (P ++ [w]) → W.grownBy W' (some B) → wpList Try.prog ops Q rest (a.put o.dst undef) W') : wpList Try.prog ops Q (o :: rest) a W := by
  obtain ⟨D, ho, hd⟩ := h
  refine wpList_mapUpdate_own W hg m x v _ hop 88 104 lawW Try.underlying73 goR B P.length D hm ho (by unfold maxLen; omega) _ _ (keyL w.a w.b) hx hv (keyW hp hq) (goD w.f w.c) [] (goR_mk _ _) ?_
  intro W' h1 h2
  refine hK W' ⟨D.put (keyL w.a w.b) (goD w.f w.c), by simpa using h1, ?_, ?_, ?_⟩ h2
  · intro u hu
    rcases List.mem_append.1 hu with hu | hu
    · exact hd.rng u hu
    · obtain rfl := List.mem_singleton.1 hu; exact ⟨hp, hq⟩
  · intro c d hc hdd
    rw [look_snoc _ _ _ _ hn]
    split
    · rename_i e
      rw [e.1, e.2, Maps.has_put_same ho.isMap (lawW.key (keyW hp hq))]; rfl
    · rename_i e
      rw [Maps.has_put_other (fun e2 => e (keyL_inj hc hdd hp hq e2)), hd.has c d hc hdd]
  · intro c d u hc hdd hl zd
    rw [look_snoc _ _ _ _ hn] at hl
    split at hl
    · rename_i e
      obtain rfl := Option.some.inj hl
      rw [e.1, e.2, Maps.atKey_put_same ho.isMap (lawW.key (keyW hp hq))]
    · rename_i e
      rw [Maps.atKey_put_other (fun e2 => e (keyL_inj hc hdd hp hq e2))]
      exact hd.val c d u hc hdd hl zd
/-- A range over the ways: those in dn have come, each once. -/
def GoRg (W : World) (B r : Nat) (P dn : List Way) (cnt : Nat) : Prop := ∃ (D : DataW Unit) (left : Lit → Bool), W.ranges Try.prog 88 goR B r P.length D left cnt ∧ GoD D P ∧ (∀ w ∈ P, left (keyL w.a w.b) = true ↔ w ∉ dn) ∧ (∀ w ∈ dn, w ∈ P) ∧ dn.Nodup
theorem GoRg.go {W : World} {B r : Nat} {P dn : List Way} {cnt : Nat} (h : GoRg W B r P dn cnt) : GoM W B P := by
  obtain ⟨D, l, h1, h2, _⟩ := h; exact ⟨D, h1.owns, h2⟩
theorem GoRg.kept {W W' : World} {B r : Nat} {P dn : List Way} {cnt : Nat} {row : Option Nat} (h : GoRg W B r P dn cnt) (hg : W.grownBy W' row) (hne : some B ≠ row) (hr : some r ≠ row) : GoRg W' B r P dn cnt := by
  obtain ⟨D, l, h1, h2⟩ := h; exact ⟨D, l, h1.kept hg hne hr, h2⟩
theorem GoRg.left {W : World} {B r : Nat} {P dn : List Way} {cnt : Nat} (h : GoRg W B r P dn cnt) : W.rangeLeft B r = cnt := by
  obtain ⟨D, l, h1, h2⟩ := h; exact h1.left_eq
theorem GoRg.ne {W : World} {B r : Nat} {P dn : List Way} {cnt : Nat} (h : GoRg W B r P dn cnt) : r ≠ B := by
  obtain ⟨D, l, h1, h2⟩ := h; exact h1.ne
theorem GoRg.lt {W : World} {B r : Nat} {P dn : List Way} {cnt : Nat} (h : GoRg W B r P dn cnt) : r < W.heap.size := by
  obtain ⟨D, l, h1, h2⟩ := h; exact h1.lt
theorem wpL_range_go (W : World) (hg : o.guard = none) (m : Operand) (hop : o.op = Op.range 73 m) (B : Nat) (P : List Way) (hA : Apart P) (hm : a.eval m = .map (some B)) (h : GoM W B P)
    (hK : ∀ W' cnt, GoRg W' B W.heap.size P [] cnt → W.grownBy W' none → W'.heap.size = W.heap.size + 1 → wpList Try.prog ops Q rest (a.put o.dst (.pointer (some ⟨W.heap.size, 0, none⟩))) W') : wpList Try.prog ops Q (o :: rest) a W := by
  obtain ⟨D, ho, hd⟩ := h
  refine wpList_range_own W hg m _ hop 88 104 lawW Try.underlying73 goR B P.length D hm ho ?_
  intro W' h1 h2 h3
  refine hK W' _ ⟨D, _, h1, hd, fun w hw => ?_, by simp, List.nodup_nil⟩ h2 h3
  have hr := hd.rng w hw
  rw [hd.has _ _ hr.1 hr.2, look_mem hA hw]
  simp
theorem wpL_next_go (W : World) (hg : o.guard = none) (it : Operand) (hop : o.op = Op.next it false) (B r : Nat) (P dn : List Way) (hA : Apart P) (hit : a.eval it = .pointer (some ⟨r, 0, none⟩)) (cnt : Nat) (h : GoRg W B r P dn cnt)
    (hDone : (∀ w ∈ P, w ∈ dn) → wpList Try.prog ops Q rest (a.put o.dst (.tuple #[.bool false])) W)
    (hMore : ∀ (w : Way) (W' : World) (cnt' : Nat), w ∈ P → w ∉ dn → GoRg W' B r P (dn ++ [w]) cnt' → cnt' < cnt → W.grownBy W' (some r) → W'.heap.size = W.heap.size → (Instr.entry (.pointer (some ⟨r, 0, none⟩))).run Try.prog W' = .ok (.tuple #[.agg #[.int .i64 w.a, .int .i64 w.b], .agg #[.int .i64 w.f, .int .i64 w.c]]) W' → wpList Try.prog ops Q rest (a.put o.dst (.tuple #[.bool true, .agg #[.int .i64 w.a, .int .i64 w.b], .agg #[.int .i64 w.f, .int .i64 w.c]])) W') :
    wpList Try.prog ops Q (o :: rest) a W := by
  obtain ⟨D, left, hr, hd, hl, hs, hn⟩ := h
  refine wpList_next_ranges W hg it hop 88 lawW goR (fun p : Int × Int => wayV p.1 p.2) (fun p : Int × Int => goV p.1 p.2) (fun key kl hk => ?_) (fun v y hv => ?_) B r P.length D left cnt hit hr (fun h0 hall => ?_) ?_
  · obtain ⟨p, q, e, _⟩ := key_inv hk; exact ⟨(p, q), e⟩
  · obtain ⟨p, e, _⟩ := goR_inv hv; exact ⟨p, e⟩
  · refine hDone fun w hw => ?_
    apply Classical.byContradiction
    intro hw2
    have := (hl w hw).2 hw2
    rw [hall] at this; cases this
  · rintro ⟨p, q⟩ ⟨f, c⟩ kl y W' cnt' hkey hlk hR hat hrg hlt hgr hsz hen
    obtain ⟨p', q', e, hp, hq, rfl⟩ := key_inv hkey
    obtain ⟨rfl, rfl⟩ : p = p' ∧ q = q' := by simpa [wayV] using e
    have hh : Maps.has D (keyL p q) = true := Maps.has_true_of_atKey hat
    rw [hd.has p q hp hq] at hh
    cases hlw : look P p q with
    | none => rw [hlw] at hh; cases hh
    | some w =>
      obtain ⟨hw, rfl, rfl⟩ := look_some hlw
      have h1 := hat (goD 0 0)
      rw [hd.val _ _ w hp hq hlw] at h1
      obtain ⟨⟨f', c'⟩, e1, rfl⟩ := goR_inv hR
      obtain ⟨rfl, rfl⟩ : f = f' ∧ c = c' := by simpa [goV] using e1
      obtain ⟨e2, e3⟩ := goD_inj h1
      simp only at e2 e3
      subst e2; subst e3
      have hwn := (hl w hw).1 hlk
      refine hMore w W' cnt' hw hwn ⟨D, _, hrg, hd, fun u hu => ?_, fun u hu => ?_, ?_⟩ hlt hgr hsz hen
      · have hru := hd.rng u hu
        rw [List.mem_append, List.mem_singleton]
        constructor
        · intro h3
          simp only [Bool.and_eq_true, Bool.not_eq_true'] at h3
          rintro (h4 | rfl)
          · exact (hl u hu).1 h3.1 h4
          · rw [WideAt.sameKey_self (lawW.key (keyW hp hq))] at h3; cases h3.2
        · intro h3
          simp only [Bool.and_eq_true, Bool.not_eq_true']
          refine ⟨(hl u hu).2 (fun h4 => h3 (.inl h4)), Maps.sameKey_ne fun e4 => ?_⟩
          obtain ⟨e5, e6⟩ := keyL_inj hru.1 hru.2 hp hq e4
          exact h3 (.inr (hA.key hu hw e5 e6))
      · rcases List.mem_append.1 hu with hu | hu
        · exact hs u hu
        · obtain rfl := List.mem_singleton.1 hu; exact hw
      · rw [List.nodup_append]
        refine ⟨hn, by simp, ?_⟩
        intro x hx y hy e9
        rw [List.mem_singleton.1 hy] at e9
        rw [e9] at hx; exact hwn hx
end
/-- Of each vertex the last face that it was met in. -/
structure LaD (D : DataW Unit) (P : List Way) : Prop where
  has : ∀ v, i64B v → (Maps.has D (.int .i64 v) = true ↔ ∃ x ∈ P, x.b = v)
  val : ∀ v, i64B v → Maps.has D (.int .i64 v) = true → ∃ x ∈ P, x.b = v ∧ (∀ zd, D.atKey (.int .i64 v) zd = .lit (.int .i64 x.f)) ∧ ∀ y ∈ P, y.b = v → y.f ≤ x.f
  size : ∃ M : List Int, M.Nodup ∧ (∀ v, v ∈ M ↔ ∃ x ∈ P, x.b = v) ∧ Maps.size D = M.length
def LaM (W : World) (B : Nat) (P : List Way) : Prop := ∃ D : DataW Unit, W.ownsMap Try.prog 3 (plainElem Try.prog 3) B P.length D ∧ LaD D P
theorem LaM.made (W : World) : LaM (W.alloc (.map #[] 0)) W.heap.size [] := ⟨.map [], World.ownsMap_made _ _ _ _, fun v _ => by simp [Maps.has], fun v _ h => by simp [Maps.has] at h, [], List.nodup_nil, by simp, rfl⟩
theorem LaM.kept {W W' : World} {B : Nat} {P : List Way} {row : Option Nat} (h : LaM W B P) (hg : W.grownBy W' row) (hne : some B ≠ row) : LaM W' B P := by
  obtain ⟨D, h1, h2⟩ := h; exact ⟨D, h1.kept hg hne, h2⟩
theorem LaM.lt {W : World} {B : Nat} {P : List Way} (h : LaM W B P) : B < W.heap.size := by
  obtain ⟨D, h1, h2⟩ := h; exact h1.lt
section
variable {ops : Array Oper} {rest : List Oper} {o : Oper} {a : Act} {Q : Exit → Act → World → Prop}
theorem wpL_look_la (W : World) (hg : o.guard = none) (m x : Operand) (hop : o.op = Op.lookup 102 m x true) (B : Nat) (P : List Way) (hm : a.eval m = .map (some B)) (h : LaM W B P) (v : Int) (hx : a.eval x = .int .i64 v) (hv : i64B v)
    (hK : ∀ (g : Int) (met : Bool), (met = true → ∃ x ∈ P, x.b = v ∧ x.f = g ∧ ∀ y ∈ P, y.b = v → y.f ≤ g) → (met = false → ∀ x ∈ P, x.b ≠ v) → wpList Try.prog ops Q rest (a.put o.dst (.tuple #[.int .i64 g, .bool met])) W) : wpList Try.prog ops Q (o :: rest) a W := by
  obtain ⟨D, ho, hd⟩ := h
  refine wpList_lookup_own_ok_int W hg m x _ hop 3 3 .i64 lawI Try.underlying102 Try.underlying3 (zeroI W) B P.length D hm ho _ (.int .i64 v) hx (Maps.keyOf_int_mk Try.underlying3 hv.wf) ?_
  intro c hat _
  refine hK c _ (fun h1 => ?_) (fun h1 y hy e => ?_)
  · obtain ⟨x, hx1, hx2, hx3, hx4⟩ := hd.val v hv h1
    have := hx3 (.lit (.int .i64 0))
    rw [hat] at this
    simp only [DataW.lit.injEq, Lit.int.injEq, true_and] at this
    exact ⟨x, hx1, hx2, this.symm, by rw [this]; exact hx4⟩
  · have := (hd.has v hv).2 ⟨y, hy, e⟩
    rw [h1] at this; cases this
theorem wpL_put_la (W : World) (hg : o.guard = none) (m x v : Operand) (hop : o.op = Op.mapUpdate 102 m x v) (B : Nat) (P : List Way) (hm : a.eval m = .map (some B)) (h : LaM W B P) (w : Way) (hx : a.eval x = .int .i64 w.b) (hv : a.eval v = .int .i64 w.f)
    (hp : i64B w.b) (hq : i64B w.f) (hn : ∀ y ∈ P, y.b = w.b → y.f ≤ w.f) (hlen : P.length < 9223372036854775807)
    (hK : ∀ W', LaM W' B (P ++ [w]) → W.grownBy W' (some B) → wpList Try.prog ops Q rest (a.put o.dst undef) W') : wpList Try.prog ops Q (o :: rest) a W := by
  obtain ⟨D, ho, hd⟩ := h
  have hk := Maps.keyOf_int_mk (P := Try.prog) Try.underlying3 hp.wf
  refine wpList_mapUpdate_own W hg m x v _ hop 3 3 lawI Try.underlying102 (plainElem Try.prog 3) B P.length D hm ho (by unfold maxLen; omega) _ _ (.int .i64 w.b) hx hv hk _ [] (plainElem_int Try.underlying3 hq.wf) ?_
  intro W' h1 h2
  have hne : ∀ c, c ≠ w.b → Lit.int .i64 c ≠ Lit.int .i64 w.b := fun c hc e => hc (by simpa using e)
  have hhas : ∀ c, i64B c → (Maps.has (D.put (.int .i64 w.b) (.lit (.int .i64 w.f))) (.int .i64 c) = true ↔ ∃ x ∈ P ++ [w], x.b = c) := fun c hc => by
    by_cases e : c = w.b
    · subst e
      rw [Maps.has_put_same ho.isMap (lawI.key hk)]
      exact ⟨fun _ => ⟨w, by simp, rfl⟩, fun _ => rfl⟩
    · rw [Maps.has_put_other (hne c e), hd.has c hc]
      constructor
      · rintro ⟨x, hx, e⟩; exact ⟨x, List.mem_append_left _ hx, e⟩
      · rintro ⟨x, hx, e2⟩
        rcases List.mem_append.1 hx with hx | hx
        · exact ⟨x, hx, e2⟩
        · obtain rfl := List.mem_singleton.1 hx; exact absurd e2.symm e
  refine hK W' ⟨_, by simpa using h1, hhas, ?_, ?_⟩ h2
  · intro c hc hh
    by_cases e : c = w.b
    · subst e
      refine ⟨w, by simp, rfl, fun zd => Maps.atKey_put_same ho.isMap (lawI.key hk) _ _, fun y hy e2 => ?_⟩
      rcases List.mem_append.1 hy with hy | hy
      · exact hn y hy e2
      · obtain rfl := List.mem_singleton.1 hy; exact Int.le_refl _
    · rw [Maps.has_put_other (hne c e)] at hh
      obtain ⟨x, hx1, hx2, hx3, hx4⟩ := hd.val c hc hh
      refine ⟨x, List.mem_append_left _ hx1, hx2, fun zd => by rw [Maps.atKey_put_other (hne c e)]; exact hx3 zd, fun y hy e2 => ?_⟩
      rcases List.mem_append.1 hy with hy | hy
      · exact hx4 y hy e2
      · obtain rfl := List.mem_singleton.1 hy; exact absurd e2.symm e
  · obtain ⟨M, hM1, hM2, hM3⟩ := hd.size
    have ht := ho.tidy lawI
    by_cases e : Maps.has D (.int .i64 w.b) = true
    · refine ⟨M, hM1, fun c => ?_, by rw [Maps.size_put ht, if_pos e, hM3]⟩
      rw [hM2]
      constructor
      · rintro ⟨x, hx, e⟩; exact ⟨x, List.mem_append_left _ hx, e⟩
      · rintro ⟨x, hx, e2⟩
        rcases List.mem_append.1 hx with hx | hx
        · exact ⟨x, hx, e2⟩
        · obtain rfl := List.mem_singleton.1 hx
          obtain ⟨y, hy, e3⟩ := (hd.has _ hp).1 e
          exact ⟨y, hy, e3.trans e2⟩
    · have hnm : w.b ∉ M := fun h => e ((hd.has _ hp).2 ((hM2 _).1 h))
      refine ⟨M ++ [w.b], ?_, fun c => ?_, by rw [Maps.size_put ht, if_neg e, hM3]; simp⟩
      · rw [List.nodup_append]
        refine ⟨hM1, by simp, ?_⟩
        intro x hx y hy e9
        rw [List.mem_singleton.1 hy] at e9
        rw [e9] at hx; exact hnm hx
      · rw [List.mem_append, hM2, List.mem_singleton]
        constructor
        · rintro (⟨x, hx, e⟩ | rfl)
          · exact ⟨x, List.mem_append_left _ hx, e⟩
          · exact ⟨w, by simp, rfl⟩
        · rintro ⟨x, hx, e2⟩
          rcases List.mem_append.1 hx with hx | hx
          · exact .inl ⟨x, hx, e2⟩
          · obtain rfl := List.mem_singleton.1 hx; exact .inr e2.symm
theorem LaM.len {W : World} {B : Nat} {P : List Way} (h : LaM W B P) (ty : TypeId) : ∃ M : List Int, M.Nodup ∧ (∀ v, v ∈ M ↔ ∃ x ∈ P, x.b = v) ∧ (Builtin.len_ #[102] ty #[.map (some B)]).run Try.prog W = .ok (.int .i64 M.length) W := by
  obtain ⟨D, ho, hd⟩ := h
  obtain ⟨M, h1, h2, h3⟩ := hd.size
  refine ⟨M, h1, h2, ?_⟩
  rw [← h3]
  exact ho.len Try.underlying102 ty
end
end Go.Proofs.Ytbehobojgeganaa
