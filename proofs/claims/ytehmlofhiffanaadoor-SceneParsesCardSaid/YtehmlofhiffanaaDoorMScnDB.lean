/- The document's own Reader: a cage's lines: what is stored back. -/
import Derived.Test.YtehmlofhiffanaaDoorMScnDA
import Derived.Test.YtehmlofhiffanaaDoorMScnQY
import Derived.Test.YtehmlofhiffanaaDoorScnQ5
import Derived.Test.YtehmlofhiffanaaDoorScnQ6
import Derived.Deep.MidRow
import Derived.Maps.AppendAt
import Derived.Test.YtehmlofhiffanaaDoorRegS
import Derived.Great.BuildSlice
namespace Go.Proofs.YtehmlofhiffanaaDoor
open Go.RowKit
set_option linter.unusedVariables false
set_option linter.unusedSimpArgs false
set_option linter.unnecessarySimpa false

theorem wp_append_at {P : Program} {w : World} {o : Oper} {a : Act} {K : Act → World → Prop} {Q : Exit → Act → World → Prop} (s x : Operand) (t : TypeId)
    (ho : o.op = .call { callee := .builtin .append, args := #[s, x], argTypes := #[t, t] })
    (base : Nat) (e : TypeId) (i : TypeInfo) (z : Value) (size bytes : Nat) (ht : P.underlying t = some (.slice e)) (hi : P.info? e = some i) (hz : i.zero = some z)
    (hsize : i.size = size) (hby : i.bytes = bytes) (hzs : z.cells.size = size) (hsz : 0 < size)
    (v : Value) (n : Nat) (xs : List Value) (hs : a.eval s = v) (hown : w.ownsRow base e size v n xs)
    (ad : Addr) (m c : Nat) (news : List Value) (hx : a.eval x = .slice (some ad) m c) (hl : news.length = m * size) (hnews : ∀ j u, news[j]? = some u → w.cell? (ad.add j) = some u) (h1 : ∀ u ∈ news, u.oneCell' = true)
    (h63 : n + m ≤ maxLen) (hbytes : (n + m) * bytes ≤ 140737488355328) (hbase : base ≤ w.heap.size)
    (h : ∀ v' w', w'.ownsRow base e size v' (n + m) (xs ++ news) → w.grownBy w' v.ownBlock → (v' = .slice none 0 0 ↔ v = .slice none 0 0 ∧ m = 0) → (v'.ownBlock = v.ownBlock ∨ v'.ownBlock = some w.heap.size) → K (a.put o.dst v') w') :
    o.wp P a w K Q := by
  obtain ⟨v', w', hr, h2, h3, h4, h5⟩ := run_append_own_at (P := P) w base t o.type e i z size bytes ht hi hz hsize hby hzs hsz v n xs hown ad m c news hl hnews h1 h63 hbytes hbase
  unfold Oper.wp execOp
  simp only [ho, resolve, invoke, builtin, Sem.run_bind, Sem.run_pure, Result.andThen_ok, List.map_toArray, List.map_cons, List.map_nil, hs, hx, hr]
  exact h v' w' h2 h3 h4 h5
theorem wp_skip {P : Program} {o : Oper} {a : Act} {w w' : World} {K : Act → World → Prop} {Q : Exit → Act → World → Prop} (h : (execOp a.eval o).run P w = .ok .skip w') (hk : K (a.put o.dst undef) w') : o.wp P a w K Q := by
  unfold Oper.wp
  rw [h]
  exact hk
theorem heap_at (w : World) (b i : Nat) (u : Value) (j : Nat) : (w.setCell ⟨b, i, none⟩ u).heap[j]? = if j = b then (w.heap[j]?.map fun o => match o with | .cells cs t f => .cells (cs.setIfInBounds i u) t f | o => o) else w.heap[j]? := by
  simp only [World.setCell]
  rw [Array.getElem?_modify]
  by_cases h : b = j
  · subst h
    simp
    rfl
  · rw [if_neg h, if_neg (Ne.symm h)]
theorem world_ext {w w' : World} (h0 : w' = { w with heap := w'.heap }) (hs : w'.heap.size = w.heap.size) (h : ∀ j, j < w.heap.size → w'.heap[j]? = w.heap[j]?) : w' = w := by
  rw [h0]
  have e : w'.heap = w.heap := by
    apply Array.ext hs
    intro i h1 h2
    have := h i h2
    rw [Array.getElem?_eq_getElem h1, Array.getElem?_eq_getElem h2] at this
    injection this
  rw [e]
theorem setCell_keep {w : World} {b i : Nat} {u : Value} {cs : Array Value} {t : TypeId} (hb : Blk w b t cs) (h : cs[i]? = some u) : w.setCell ⟨b, i, none⟩ u = w := by
  refine world_ext rfl (by simp [World.setCell]) (fun j hj => ?_)
  rw [heap_at]
  split
  · rename_i e
    subst e
    have hb' : w.heap[j]? = some (.cells cs t (0, 0)) := hb
    rw [hb']
    simp only [Option.map_some]
    have e : cs.setIfInBounds i u = cs := by
      apply Array.ext (by simp)
      intro k h1 h2
      rw [Array.getElem_setIfInBounds (by simpa using h1)]
      split
      · rename_i e
        subst e
        rw [Array.getElem?_eq_getElem h2] at h
        injection h with h
        exact h.symm
      · rfl
    rw [e]
  · rfl
theorem setCell_comm {w : World} {b c i k : Nat} {u v : Value} (h : b ≠ c) : (w.setCell ⟨b, i, none⟩ u).setCell ⟨c, k, none⟩ v = (w.setCell ⟨c, k, none⟩ v).setCell ⟨b, i, none⟩ u := by
  refine world_ext rfl (by simp [World.setCell]) (fun j hj => ?_)
  rw [heap_at, heap_at, heap_at, heap_at]
  by_cases h1 : j = b
  · subst h1
    rw [if_neg h, if_pos rfl, if_pos rfl, if_neg h]
  · by_cases h2 : j = c
    · subst h2
      rw [if_pos rfl, if_neg h1, if_neg h1, if_pos rfl]
    · rw [if_neg h2, if_neg h1, if_neg h1, if_neg h2]
/-- A block beside all rows is turned. -/
theorem RepV.asideCell {base g : Nat} {W : World} {sc : Scn} {val : Key → Value} (h : RepV base W g 61 sc val) {b : Nat} {cs : Array Value} (hb : Blk W b 47 cs) (hcg : (val .cages).ownBlock ≠ some b) (i : Nat) (u : Value) : RepV base (W.setCell ⟨b, i, none⟩ u) g 61 sc val := by
  have hty : ∀ (x : Option Nat) (T : TypeId), (∀ k, x = some k → ∃ cur, W.heap[k]? = some (.cells cur T (0, 0))) → T ≠ 47 → x ≠ some b := fun x T hx hT e => by
    obtain ⟨cur, q⟩ := hx b e
    have := q.symm.trans hb
    injection this with this
    injection this with _ q2
    exact hT q2
  have own := fun (_ : Nat) (T : TypeId) (sz n : Nat) (v : Value) (xs : List Value) (h : W.ownsRow base T sz v n xs) (hT : T ≠ 47) => hty v.ownBlock T (fun k hk => (own_typed h k hk).2) hT
  have ro := fun (T : TypeId) (n : Nat) (v : Value) (xs : List Value) (h : roRow W base T v n xs) (hT : T ≠ 47) => hty v.ownBlock T (fun k hk => by
    rcases h.2 with ⟨q, _⟩ | ⟨b, off, cap, cur, q, _, hg, _⟩
    · rw [q] at hk; cases hk
    · rw [q] at hk; cases hk; exact ⟨cur, hg⟩) hT
  have hk : ∀ k, (rowsOf sc val k).v.ownBlock ≠ some b := by
    intro k
    have hr := h.own.row k
    cases k with
    | tex i => exact ro _ _ _ _ hr (by simp [rowsOf])
    | frow i j => exact ro _ _ _ _ hr (by simp [rowsOf])
    | lights => exact own 0 _ _ _ _ _ hr (by simp [rowsOf])
    | mats => exact own 0 _ _ _ _ _ hr (by simp [rowsOf])
    | texs => exact own 0 _ _ _ _ _ hr (by simp [rowsOf])
    | skins => exact own 0 _ _ _ _ _ hr (by simp [rowsOf])
    | cages => exact hcg
    | vert i => exact own 0 _ _ _ _ _ hr (by simp [rowsOf])
    | face i => exact own 0 _ _ _ _ _ hr (by simp [rowsOf])
    | crease i => exact own 0 _ _ _ _ _ hr (by simp [rowsOf])
  have hne : b ≠ g := fun e => by
    subst e
    have := h.blk.symm.trans hb
    injection this with this
    injection this with _ q2
    revert q2; decide
  have hgr : W.grownBy (W.setCell ⟨b, i, none⟩ u) (some b) := gb_set (World.grownBy.refl _ _) i u
  exact ⟨h.blk.far i u hne, ⟨fun k => (h.own.row k).kept hgr (.inr (hk k)), h.own.apart, h.own.off⟩, h.nilT, h.nilV, h.nilF, h.nilC, h.nilR, h.base_le⟩
/-- A cage's cells, stored back: but one they were so. -/
theorem setCells_back {w : World} {b c o k : Nat} {x y z v : Value} {cb : Array Value} {t : TypeId} (hbc : b ≠ c) (hB : Blk w b t cb) (hk : k < 3) (hx : (if k = 0 then some v else cb[o]?) = some x) (hy : (if k = 1 then some v else cb[o + 1]?) = some y) (hz : (if k = 2 then some v else cb[o + 2]?) = some z) :
    (w.setCell ⟨c, k, none⟩ v).setCells b o [x, y, z] = (w.setCell ⟨b, o + k, none⟩ v).setCell ⟨c, k, none⟩ v := by
  show (((w.setCell ⟨c, k, none⟩ v).setCell ⟨b, o, none⟩ x).setCell ⟨b, o + 1, none⟩ y).setCell ⟨b, o + 1 + 1, none⟩ z = _
  rw [setCell_comm (Ne.symm hbc), setCell_comm (Ne.symm hbc), setCell_comm (Ne.symm hbc)]
  congr 1
  rcases (by omega : k = 0 ∨ k = 1 ∨ k = 2) with rfl | rfl | rfl
  · simp only [if_pos, if_neg (show ¬ (0 : Nat) = 1 by decide), if_neg (show ¬ (0 : Nat) = 2 by decide)] at hx hy hz
    injection hx with hx
    subst hx
    rw [setCell_keep (hB.set o v) (by rw [Array.getElem?_setIfInBounds_ne (by omega)]; exact hy), setCell_keep (hB.set o v) (by rw [Array.getElem?_setIfInBounds_ne (by omega)]; exact hz)]
    rfl
  · simp only [if_pos, if_neg (show ¬ (1 : Nat) = 0 by decide), if_neg (show ¬ (1 : Nat) = 2 by decide)] at hx hy hz
    injection hy with hy
    subst hy
    rw [setCell_keep hB hx, setCell_keep (hB.set (o + 1) v) (by rw [Array.getElem?_setIfInBounds_ne (by omega)]; exact hz)]
  · simp only [if_pos, if_neg (show ¬ (2 : Nat) = 0 by decide), if_neg (show ¬ (2 : Nat) = 1 by decide)] at hx hy hz
    injection hz with hz
    subst hz
    rw [setCell_keep hB hx, setCell_keep hB hy]

end Go.Proofs.YtehmlofhiffanaaDoor

/- A region that draws its order, as XRegS has it, whose first operation is any that yields one value in every world. No program is imported. -/
namespace Go.Proofs.YtehmlofhiffanaaDoor
open Go.RowKit
set_option linter.unusedVariables false
set_option linter.unusedSimpArgs false
set_option linter.unnecessarySimpa false
section
variable {P : Program} {w : World}
theorem wp_region_makeF {id : Nat} {Q : Exit → Act → World → Prop} {a : Act} {o0 : Oper} {l : List Oper} (n : Nat) (A : Act) (v0 : Value) (d : Tmp) (obj : Obj) (hm : P.follows .mixedOrders = true) (hB : makeS (o0 :: l) n = true) (hd : dstsB (a.put o0.dst v0).tmps.size ((o0 :: l).take n).tail = true)
    (hy0 : ∀ w : World, (execOp a.eval o0).run P w = .ok (.value v0) w) (hg0 : o0.guard = none) (hQ : ∀ c a2 w, Q (.panic c) (a2.put o0.dst v0) w → Q (.panic c) a2 w)
    (hmk : MakesA P (o0 :: l).toArray n d obj A)
    (h : ∀ x : More, wpQuiet P (o0 :: l).toArray (fun u => ∃ y, u = grow (grow w x) y) (fun a' => a' = A) ((o0 :: l).take n).tail (a.put o0.dst v0))
    (ht : ∀ x y : More, wpList P (o0 :: l).toArray Q ((o0 :: l).drop (n + 1)) (A.put (some d) (.slice (some ⟨(grow w x).heap.size, 0, none⟩) 1 1)) (grow ((grow w x).alloc obj) y)) : (Code.region id (o0 :: l).toArray true).wp P Q a w := by
  simp only [makeS, Bool.and_eq_true, decide_eq_true_eq] at hB
  obtain ⟨⟨⟨⟨⟨⟨hsel, hn⟩, hn0⟩, hs⟩, hc⟩, ⟨hr0, hf0⟩⟩, hlex⟩ := hB
  generalize hL0 : o0 :: l = L0 at *
  have hzero : L0.toArray[0]? = some o0 := by rw [← hL0]; rfl
  have htl : (L0.take n).tail.length = n - 1 := by simp; omega
  refine wp_region_any hm ?_
  have hsz : L0.toArray.size = L0.length := by simp
  rw [hsz]
  obtain ⟨m, hm2⟩ : ∃ m, L0.length = m + 1 := ⟨L0.length - 1, by omega⟩
  refine wpAny_of_held (S := fun _ => True) _ _ _ _ ?_
  rw [show wpAnyH P .any L0.toArray Q (fun _ => True) L0.length = wpAnyH P .any L0.toArray Q (fun _ => True) (m + 1) from by rw [hm2]]
  refine wpAnyH_take (v := v0) hzero hsel hf0 hr0 hQ (.inl ⟨by simp [Region.wanted, hg0], fun w _ => hy0 w⟩) trivial (held_of_any _ _ _ _ ?_)
  have hu : At w obj none { w with drawn := w.drawn + 1 } := grow_of (bel_drew (Below.refl _ _))
  have inv1 : HeadInv .any L0.toArray (n + 1) ((Array.replicate L0.length false).setIfInBounds 0 true) := (inv0 L0 (n + 1)).set (by simpa using hr0) (by omega)
  have H := any_lexS_ (P := P) (w := w) (md := .any) (ops := L0.toArray) (n := n) (N := n + 1) (alc := some d) (obj := obj)
    (L := fun s listed a => Region.seqB .any L0.toArray (L0.length - (n + 1)) (n + 1) listed = true ∧ ∃ x, s = some x ∧ a = A.put (some d) (ptS_ w x)) (F := 1)
    (fin := fun listed => decide (Region.ready .any L0.toArray listed = [n]) && Region.seqB .any L0.toArray (L0.length - (n + 1)) (n + 1) (listed.setIfInBounds n true)) (Q := fun a => a = A) hsel (by omega) (fun d hd => rfl) hs hc (by simpa using hn)
    (fun s listed a h => seqB_ready h.1)
    (fun listed a _ hf hq => by
      simp only [Bool.and_eq_true, decide_eq_true_eq] at hf
      refine ⟨by rw [hf.1]; simp, fun i hi => .inr ?_⟩
      rw [hf.1] at hi
      obtain rfl : i = n := by simpa using hi
      exact ⟨rfl, rfl, d, rfl, by rw [hq]; exact hmk, fun x => ⟨hf.2, x, rfl, by rw [hq]⟩⟩) (L0.take n).tail 1 ((Array.replicate L0.length false).setIfInBounds 0 true) (a.put o0.dst v0) (fun j hj => by
      rw [htl] at hj
      rw [List.getElem?_tail, List.getElem?_take_of_lt (by omega)]
      simp [Nat.add_comm 1 j]) (by omega) (by rw [htl]; omega) inv1 (by rw [htl]; exact hlex) (sure_of_quiet (Q := fun a => a = A) rfl _ _ hd h)
  have S := any_soundS_ (P := P) (Q' := Q) (g := L0.length - (n + 1)) (obj := obj) (fun s listed a u hu hl => by
    obtain ⟨hq, x, rfl, rfl⟩ := hl
    obtain ⟨y, rfl⟩ := hu
    have := wpAny_of_seq (md := .any) (Q' := Q) (ops := L0.toArray) (L0.drop (n + 1)) (n + 1) listed (A.put (some d) (ptS_ w x)) (grow ((grow w x).alloc obj) y) (fun j => by simp [List.getElem?_drop]) (by simpa using hq) (ht x y)
    simpa using this) _ _ _ _ _ hu H
  rw [htl, show n - 1 + 1 + (L0.length - (n + 1)) = m by omega] at S
  exact S
end
end Go.Proofs.YtehmlofhiffanaaDoor

/- The document's own Reader: the line of a vertex. -/
namespace Go.Proofs.YtehmlofhiffanaaDoor
open Go.RowKit
set_option linter.unusedVariables false
set_option linter.unusedSimpArgs false
set_option linter.unnecessarySimpa false

theorem alloc_Cage (a : Act) (o : Oper) (ho : o.op = .alloc 47) (w : World) : (execOp a.eval o).run Tryd.prog w = .ok (.value (.pointer (some ⟨w.heap.size, 0, none⟩))) (w.alloc (.cells #[.slice none 0 0, .slice none 0 0, .slice none 0 0] 47)) := by
  unfold execOp
  rw [ho]
  kernel_rfl
theorem sizC : (Tryd.prog.info? 47).map (·.size) = some 3 := by kernel_rfl
theorem grow_size_le (w : World) (x : More) : w.heap.size ≤ (grow w x).heap.size := (x.kept w).size
theorem blk_ne {V : World} {base : Nat} {T t : TypeId} {sz n c : Nat} {v : Value} {xs : List Value} {cs : Array Value} (h : (grow V More.none_).ownsRow base T sz v n xs) (hb : Blk V c t cs) (hT : T ≠ t) : v.ownBlock ≠ some c := fun e => by
  obtain ⟨_, cur, q⟩ := own_typed h c e
  have hb2 : (grow V More.none_).heap[c]? = some (.cells cs t (0, 0)) := hb.grow More.none_
  have := q.symm.trans hb2
  injection this with this
  injection this with _ q2
  exact hT q2
theorem setCells_grow (w : World) (x : More) (b o : Nat) (a1 a2 a3 : Value) (hb : b < w.heap.size) : ∃ x', (grow w x).setCells b o [a1, a2, a3] = grow (w.setCells b o [a1, a2, a3]) x' := by
  have h1 : b < (w.setCell ⟨b, o, none⟩ a1).heap.size := by simpa using hb
  have h2 : b < ((w.setCell ⟨b, o, none⟩ a1).setCell ⟨b, o + 1, none⟩ a2).heap.size := by simpa using hb
  refine ⟨((x.setC w b o a1).setC (w.setCell ⟨b, o, none⟩ a1) b (o + 1) a2).setC ((w.setCell ⟨b, o, none⟩ a1).setCell ⟨b, o + 1, none⟩ a2) b (o + 1 + 1) a3, ?_⟩
  show ((((grow w x).setCell ⟨b, o, none⟩ a1).setCell ⟨b, o + 1, none⟩ a2).setCell ⟨b, o + 1 + 1, none⟩ a3) = _
  rw [grow_setCell _ _ _ _ _ hb, grow_setCell _ _ _ _ _ h1, grow_setCell _ _ _ _ _ h2]
  rfl
theorem row_block {W : World} {base : Nat} {T : TypeId} {sz n c : Nat} {b : Nat} {xs : List Value} (h : W.ownsRow base T sz (.slice (some ⟨b, 0, none⟩) n c) n xs) (hn : 0 < n) : ∃ cur, Blk W b T cur ∧ (∀ j, j < n * sz → cur[j]? = xs[j]?) := by
  rcases h.2 with ⟨_, q⟩ | ⟨g, cap, cur, h1, h2, h3, _⟩
  · omega
  · injection h1 with hA _ hc
    injection hA with hA
    injection hA with hA
    subst hA
    refine ⟨cur, h3, fun j hj => ?_⟩
    have hb : Blk W b T cur := h3
    rw [← hb.cell j, h.cellAt j hj]
theorem cages_form {W : World} {g : Nat} {TR : TypeId} {sc : Scn} {val : Key → Value} (hR : RepV g W g TR sc val) : ∃ A a, val .cages = .slice A sc.cages.length a ∧ (0 < sc.cages.length → ∃ b i, A = some ⟨b, 0, none⟩ ∧ i + 1 = sc.cages.length) := by
  have ho : W.ownsRow g 47 3 (val .cages) sc.cages.length ((cageSS sc.cages.length val).flatMap fC) := hR.own.row .cages
  obtain ⟨A, a, hv⟩ := own_form ho
  refine ⟨A, a, hv, fun h => ?_⟩
  rcases ho.2 with ⟨h1, h2⟩ | ⟨b, cap, cur, h1, _⟩
  · omega
  · rw [hv] at h1
    injection h1 with e1
    exact ⟨b, sc.cages.length - 1, e1, by omega⟩
theorem partV_ok (sc : Scn) (k : Wd) (ws : List Wd) (h : numsF ws = none) : partF sc k ws = .error 10 := by
  unfold partF; rw [h]
theorem wrap_pred {m : Nat} (h : m ≤ 64) : IntKind.i64.wrap ((m : Int) - 1) = (m : Int) - 1 := IntWalk.i64_in _ (by omega)
set_option maxRecDepth 100000 in
set_option maxHeartbeats 8000000 in
theorem dpart_v (W : World) (g n c b off : Nat) (sc : Scn) (val : Key → Value) (ws : List Wd) (hn : ws.length = n) (hl : n ≤ 65537) (hc : n + 1 ≤ c) (hbg : b < g) (hA : SFW W (some ⟨b, off, none⟩) (kV :: ws)) (hR : RepV g W g 61 sc val) (hI : InvT sc) :
    Calls Tryd.prog 28 #[.pointer (some ⟨g, 0, none⟩), .slice (some ⟨b, off, none⟩) (n + 1) c] W fun e W' => readP g 61 W (partF sc kV ws) e W' := by
  obtain ⟨AC, aC, hv, hpos⟩ := cages_form hR
  obtain ⟨i0, hi0, hz0, hz1, hz2⟩ := info_parts infoVx
  obtain ⟨hS, hbl⟩ : W.cell? ⟨b, off, none⟩ = some (.string ⟨(kV).toArray⟩) ∧ b < W.heap.size := by
    obtain ⟨b2, off2, q, hb, hcc⟩ := hA (by simp)
    cases q
    exact ⟨by simpa using hcc 0 (by simp), hb⟩
  have hgl := hR.lt
  have hT := hA.tail
  have hT0 := SFW.tail0 (W := W) (b := b) (off := off) (k := kV) hn
  have h8 := hI.1.skins.2
  have HI := Lib.hid hI
  have HR := Lib.hid hR
  have E6 := eqk6 kV
  have T6 := eqt6 kV
  rw [show decide (kV = kV) = true from by decide] at E6 T6
  have E7 := eqk7 kV
  have T7 := eqt7 kV
  rw [show decide (kV = kF) = false from by decide] at E7 T7
  have E8 := eqk8 kV
  have T8 := eqt8 kV
  rw [show decide (kV = kCrease) = false from by decide] at E8 T8
  have N7 : (kV != [102]) = true := by rw [bne, E7]; rfl
  have M7 : ((⟨(kV).toArray⟩ : ByteArray).toList != [102]) = true := by rw [bne, T7]; rfl
  clear hA hR
  have HF := Lib.hid (partV sc ws)
  generalize hk : kV = k at *
  by_cases q : n = 3
  rotate_left
  · have e1 : ((n : Int) == 3) = false := (ne_len (m := 3) q).1
    have e2 : ¬ (n : Int) = 3 := (ne_len (m := 3) q).2
    go_enter Tryd.func28, Tryd.ntmps28
    go_wp2_with (go_at_call 42; (with_reducible refine (numbers_any _ _ _ n ws hn hl ?_).mono ?_); (first | exact hT | exact hT0 (by omega) _); rintro e V1 hp; rcases dnums_or hp hn with ⟨hN, rfl, x2, rfl⟩ | ⟨ns, A2, c2, hN, hL, rfl, hbV, hown⟩; rotate_left; (have tk : V1.cell? ⟨b, off, none⟩ = some (.string ⟨(k).toArray⟩) := (hbV.out.cell (p := ⟨b, off, none⟩) hbl).trans hS; have hblV : b < V1.heap.size := Nat.lt_of_lt_of_le hbl hbV.out.size))
    all_goals go_ret
    all_goals first | exact readP_err 10 hgl hbV.out (by rw [HF.out, hN]; have := hL.out; simp; omega) | exact readP_err 10 hgl (by repeat (first | with_reducible exact Below.refl _ _ | with_reducible refine bel_then ?_ _ | with_reducible refine bel_grow ?_ _ | with_reducible refine bel_alloc ?_ _ | with_reducible refine bel_drew ?_ | with_reducible refine bel_set ?_ (by simp) _ | with_reducible refine bel_setRow ?_ (by first | omega | (simp; done)) _)) (by rw [HF.out, hN])
  subst q
  by_cases hC : sc.cages = []
  · have hC0 : sc.cages.length = 0 := by rw [hC]; rfl
    rw [hC0] at hv
    replace hC : sc.cages.getLast? = none := by rw [hC]; rfl
    replace hC := Lib.hid hC
    go_enter Tryd.func28, Tryd.ntmps28
    go_upto_region 6 with (first | (go_at_call 42; (with_reducible refine (numbers_any _ _ _ 3 ws hn hl ?_).mono ?_); (first | exact hT | exact hT0 (by omega) _); rintro e V1 hp; rcases dnums_or hp hn with ⟨hN, rfl, x2, rfl⟩ | ⟨ns, A2, c2, hN, hL, rfl, hbV, hown⟩; rotate_left; (have hbV1 := hbV.out; have HRV := Lib.hid (HR.out.below hbV1); have HIV := Lib.hid (IF_of_own hown.out hL.out); have hVl := HRV.out.lt; have tk : V1.cell? ⟨b, off, none⟩ = some (.string ⟨(k).toArray⟩) := (hbV1.cell (p := ⟨b, off, none⟩) hbl).trans hS; have hblV : b < V1.heap.size := Nat.lt_of_lt_of_le hbl hbV1.size; clear hbV1; have c23 : V1.cell? ⟨g, 23, none⟩ = some (val .cages) := HRV.out.blk.cell 23; rw [hv] at c23)))
    all_goals first | (go_ret; first | exact readP_err 10 hgl (by repeat (first | with_reducible exact Below.refl _ _ | with_reducible refine bel_then ?_ _ | with_reducible refine bel_grow ?_ _ | with_reducible refine bel_alloc ?_ _ | with_reducible refine bel_drew ?_ | with_reducible refine bel_set ?_ (by simp) _ | with_reducible refine bel_setRow ?_ (by first | omega | (simp; done)) _)) (by rw [HF.out, hN]) | exact readP_err 15 hgl (bel_trans hbV.out (by repeat (first | with_reducible exact Below.refl _ _ | with_reducible refine bel_then ?_ _ | with_reducible refine bel_grow ?_ _ | with_reducible refine bel_alloc ?_ _ | with_reducible refine bel_drew ?_ | with_reducible refine bel_set ?_ (by simp) _ | with_reducible refine bel_setRow ?_ (by first | omega | (simp; done)) _))) (by rw [HF.out, hN]; dsimp only; rw [if_neg (by have := hL.out; omega), hC.out])) | skip
  obtain ⟨bC, i, rfl, hi⟩ := hpos (by cases q : sc.cages with | nil => exact absurd q hC | cons a l => simp)
  rw [← hi] at hv
  have HI0 := Lib.hid hi
  have i8 : (i : Int) + 1 ≤ 8 := by omega
  have HV0 := Lib.hid hv
  clear hC hpos hi
  go_enter Tryd.func28, Tryd.ntmps28
  go_upto_region 6 with (first | (go_at_call 42; (with_reducible refine (numbers_any _ _ _ 3 ws hn hl ?_).mono ?_); (first | exact hT | exact hT0 (by omega) _); rintro e V1 hp; rcases dnums_or hp hn with ⟨hN, rfl, x2, rfl⟩ | ⟨ns, A2, c2, hN, hL, rfl, hbV, hown⟩; rotate_left; (have hbV1 := hbV.out; have HRV := Lib.hid (HR.out.below hbV1); have HIV := Lib.hid (IF_of_own hown.out hL.out); have hVl := HRV.out.lt; have tk : V1.cell? ⟨b, off, none⟩ = some (.string ⟨(k).toArray⟩) := (hbV1.cell (p := ⟨b, off, none⟩) hbl).trans hS; have hblV : b < V1.heap.size := Nat.lt_of_lt_of_le hbl hbV1.size; clear hbV1; have c23 : V1.cell? ⟨g, 23, none⟩ = some (val .cages) := HRV.out.blk.cell 23; rw [hv] at c23)))
  all_goals first | (go_ret; first | exact readP_err 10 hgl (by repeat (first | with_reducible exact Below.refl _ _ | with_reducible refine bel_then ?_ _ | with_reducible refine bel_grow ?_ _ | with_reducible refine bel_alloc ?_ _ | with_reducible refine bel_drew ?_ | with_reducible refine bel_set ?_ (by simp) _ | with_reducible refine bel_setRow ?_ (by first | omega | (simp; done)) _)) (by rw [HF.out, hN]) | exact readP_err 15 hgl (bel_trans hbV.out (by repeat (first | with_reducible exact Below.refl _ _ | with_reducible refine bel_then ?_ _ | with_reducible refine bel_grow ?_ _ | with_reducible refine bel_alloc ?_ _ | with_reducible refine bel_drew ?_ | with_reducible refine bel_set ?_ (by simp) _ | with_reducible refine bel_setRow ?_ (by first | omega | (simp; done)) _))) (by rw [HF.out, hN]; dsimp only; rw [if_neg (by have := hL.out; omega), hC])) | skip
  obtain ⟨⟨A1, a1, HV1, cv⟩, ⟨A2', a2, HV2, cf⟩, ⟨A3, a3, HV3, cc⟩, zb, hbl', hbg', hbne, cur, hbt⟩ := HRV.out.cage_cell HI0.out (by rw [← HI0.out]; exact HV0.out)
  have HVL := Lib.hid ((HI.out.1.cage _ (List.mem_of_getLast? (getLast_at HI0.out))).1)
  have HBT := Lib.hid hbt
  have i0' : (0 : Int) ≤ (i : Int) := by omega
  have i1' : (i : Int) < (i : Int) + 1 := by omega
  have isub : IntKind.i64.wrap ((i : Int) + 1 - 1) = (i : Int) := by rw [show (i : Int) + 1 - 1 = (i : Int) by omega]; exact IntWalk.i64_in _ (by omega)
  clear hbt zb
  refine wp_region_make 14 ?_ 7 (.cells #[.slice none 0 0, .slice none 0 0, .slice none 0 0] 47) (by kernel_rfl) (by kernel_rfl) (by kernel_rfl) (fun d hd => by cases hd; exact ⟨_, rfl, rfl, rfl, fun A u => alloc_Cage A _ rfl u⟩) (fun pp => ?_) (fun pp qq => ?_)
  rotate_left
  · simp only [List.take_succ_cons, List.take_zero]
    repeat (go_big_quiet_step ((fail)))
    refine wpQuiet_nil ?_
    exact rfl
  simp only [List.drop_succ_cons, List.drop_zero]
  try simp only [Act.put, List.setIfInBounds_toArray, List.set_cons_succ, List.set_cons_zero]
  refine wpList_store_rowTo rfl 47 _ _ rfl rfl ((grow V1 pp).heap.size) #[.slice A1 (cageAt sc i).verts.length a1, .slice A2' (cageAt sc i).faces.length a2, .slice A3 (cageAt sc i).creases.length a3] rfl rfl 47 #[.slice none 0 0, .slice none 0 0, .slice none 0 0] (Blk.grow (Blk.new _ _ _ _ rfl) _) sizC rfl (by simp [Value.oneCell']) ?_
  go_upto_region 7 with fail
  refine wp_letter (fun U hUe => ?_)
  have hBU : Below V1.heap.size V1 U := by rw [hUe]; exact bel_setRow (bel_grow (bel_alloc (bel_grow (Below.refl _ _) _) _) _) (by simp [grow_size_le]) _
  obtain ⟨cB, hcB⟩ : ∃ x, x = (grow V1 pp).heap.size := ⟨_, rfl⟩
  have KB : Blk U cB 47 #[.slice A1 (cageAt sc i).verts.length a1, .slice A2' (cageAt sc i).faces.length a2, .slice A3 (cageAt sc i).creases.length a3] := by rw [hUe, hcB]; exact (Blk.grow (Blk.new _ _ _ _ rfl) _).setRow _
  rw [← hcB]
  have hcBl : V1.heap.size ≤ cB := by rw [hcB]; exact (pp.kept V1).size
  clear hUe hcB
  have hB1U : Below W.heap.size W U := bel_trans hbV.out hBU
  have HRU := Lib.hid (HRV.out.below hBU)
  have HIU := Lib.hid (HIV.out.below hBU)
  have uk : U.cell? ⟨b, off, none⟩ = some (.string ⟨(k).toArray⟩) := (hBU.cell (p := ⟨b, off, none⟩) hblV).trans tk
  have hblU : b < U.heap.size := Nat.lt_of_lt_of_le hblV hBU.size
  have k0 : U.cell? ⟨cB, 0, none⟩ = some (.slice A1 (cageAt sc i).verts.length a1) := KB.cell 0
  have k1 : U.cell? ⟨cB, 1, none⟩ = some (.slice A2' (cageAt sc i).faces.length a2) := KB.cell 1
  have k2 : U.cell? ⟨cB, 2, none⟩ = some (.slice A3 (cageAt sc i).creases.length a3) := KB.cell 2
  have kz0 := KB.frozen 0
  have kz1 := KB.frozen 1
  have kz2 := KB.frozen 2
  have hcU := KB.lt
  have HKB := Lib.hid KB
  have u23 : U.cell? ⟨g, 23, none⟩ = some (.slice (some ⟨bC, 0, none⟩) (i + 1) aC) := (hBU.cell (p := ⟨g, 23, none⟩) hVl).trans c23
  have hUl := HRU.out.lt
  have hbC := Lib.hid (Nat.lt_of_lt_of_le hbl' hcBl)
  have hbCU : bC < U.heap.size := Nat.lt_of_lt_of_le hbl' hBU.size
  have v64 : ((cageAt sc i).verts.length : Int) ≤ 64 := by have := HVL.out; omega
  have vw := wrap_pred HVL.out
  have hB1 := Lib.hid hB1U
  have HBU := Lib.hid hBU
  clear tk c23 cv cf cc hBU hB1U KB hVl hblV
  have HIV' := HIV
  clear HIV
  have HIV := HIU
  go_upto_region 13 with (first | (go_at_call 43; (with_reducible refine (dw_0_3 _ _ 3 _ _ _ ns hL.out (by omega) (by omega) (HIV.out.below (by repeat (first | with_reducible exact Below.refl _ _ | with_reducible refine bel_then ?_ _ | with_reducible refine bel_grow ?_ _ | with_reducible refine bel_alloc ?_ _ | with_reducible refine bel_drew ?_ | with_reducible refine bel_set ?_ (by simp) _ | with_reducible refine bel_setRow ?_ (by first | omega | (simp; done)) _)))).mono ?_); rintro e _ ⟨⟨hw1, rfl⟩ | ⟨hw1, rfl⟩, x3, rfl⟩))
  all_goals first | (go_ret; first | exact readP_err 13 hgl (bel_trans hB1.out (by repeat (first | with_reducible exact Below.refl _ _ | with_reducible refine bel_then ?_ _ | with_reducible refine bel_grow ?_ _ | with_reducible refine bel_alloc ?_ _ | with_reducible refine bel_drew ?_ | with_reducible refine bel_set ?_ (by simp) _ | with_reducible refine bel_setRow ?_ (by first | omega | (simp; done)) _))) (by rw [HF.out, hN]; dsimp only; rw [if_neg (by have := hL.out; omega), getLast_at HI0.out]; dsimp only; rw [if_pos (by omega)]) | exact readP_err 11 hgl (bel_trans hB1.out (by repeat (first | with_reducible exact Below.refl _ _ | with_reducible refine bel_then ?_ _ | with_reducible refine bel_grow ?_ _ | with_reducible refine bel_alloc ?_ _ | with_reducible refine bel_drew ?_ | with_reducible refine bel_set ?_ (by simp) _ | with_reducible refine bel_setRow ?_ (by first | omega | (simp; done)) _))) (by rw [HF.out, hN]; dsimp only; rw [if_neg (by have := hL.out; omega), getLast_at HI0.out]; dsimp only; rw [if_neg (by omega), if_neg (by rw [hw1]; simp)])) | skip
  have hl3 : ns.length = 3 := hL.out
  have HS := Lib.hid (show partF sc k ws = .ok { sc with cages := onLast (fun c => { c with verts := c.verts ++ [ns] }) sc.cages } by
    rw [HF.out, hN]; dsimp only; rw [if_neg (by omega), getLast_at HI0.out]; dsimp only; rw [if_neg (by omega), if_pos hw1])
  clear HF hw1 hN
  have HVC := Lib.hid (show val .cages = .slice (some ⟨bC, 0, none⟩) sc.cages.length aC by rw [← HI0.out]; exact HV0.out)
  refine wp_letter (fun V hVe => ?_)
  have hUV : Below U.heap.size U V := by rw [hVe]; (repeat (first | with_reducible exact Below.refl _ _ | with_reducible refine bel_then ?_ _ | with_reducible refine bel_grow ?_ _ | with_reducible refine bel_alloc ?_ _ | with_reducible refine bel_drew ?_ | with_reducible refine bel_set ?_ (by simp) _ | with_reducible refine bel_setRow ?_ (by first | omega | (simp; done)) _))
  clear hVe
  have hB1V : Below W.heap.size W V := bel_trans hB1.out hUV
  have HRV2 := Lib.hid (HRU.out.below hUV)
  have HIV2 := Lib.hid (HIU.out.below hUV)
  have KBV := HKB.out.below hUV
  have k0 : V.cell? ⟨cB, 0, none⟩ = some (.slice A1 (cageAt sc i).verts.length a1) := KBV.cell 0
  have kz0 := KBV.frozen 0
  have hcV := KBV.lt
  have hVl := HRV2.out.lt
  have hblV : b < V.heap.size := Nat.lt_of_lt_of_le hblU hUV.size
  have OW : ∀ x, (grow V x).ownsRow g 24 3 (.slice A1 (cageAt sc i).verts.length a1) (cageAt sc i).verts.length (flat3 (cageAt sc i).verts) := by
    intro x; rw [← HV1.out]; exact (HRV2.out.grow x).own.row (.vert i)
  have CP := Lib.hid (fun (x : More) => dpoint (grow V x) A2 3 c2 0 0 ns rfl hL.out (by decide) (by decide) (HIV2.out.below (bel_grow (Below.refl _ _) x)))
  replace OW := Lib.hid OW
  obtain ⟨p0, hp0⟩ : ∃ p, p = ns.getD 0 0 := ⟨_, rfl⟩
  obtain ⟨p1, hp1⟩ : ∃ p, p = ns.getD (0 + 1) 0 := ⟨_, rfl⟩
  obtain ⟨p2, hp2⟩ : ∃ p, p = ns.getD (0 + 2) 0 := ⟨_, rfl⟩
  rw [← hp0, ← hp1, ← hp2] at CP
  have HNS := Lib.hid (show [Value.int .i64 (ns.getD 0 0), Value.int .i64 (ns.getD 1 0), Value.int .i64 (ns.getD 2 0)] = [.int .i64 p0, .int .i64 p1, .int .i64 p2] by rw [hp0, hp1, hp2])
  clear hp0 hp1 hp2
  replace hB1V := Lib.hid hB1V
  replace hUV := Lib.hid hUV
  replace KBV := Lib.hid KBV
  clear hown hp uk u23 k1 k2 kz1 kz2 hcU hUl hbCU hblU HIV HIV' hl3
  refine wp_region_makeF 4 ?_ (.pointer (some ⟨cB, 0, none⟩)) 84 (.cells #[.int .i64 p0, .int .i64 p1, .int .i64 p2] 24) (by kernel_rfl) (by kernel_rfl) (by kernel_rfl) (fun w => by simp [execOp, go_sem]) rfl (fun _ _ _ h => h) ?_ (fun x => ?_) (fun x y => ?_)
  rotate_left 2
  · simp only [List.take_succ_cons, List.take_zero, List.tail_cons, Act.put, List.setIfInBounds_toArray, List.set_cons_succ, List.set_cons_zero]
    repeat (go_big_quiet_step (((first | with_reducible exact qq1 (CP.out _) | with_reducible exact qq2 (CP.out _)))))
    refine wpQuiet_nil ?_
    exact rfl
  rotate_left
  · exact ⟨_, rfl, rfl, rfl, fun u => by simp [execOp, go_sem]⟩
  simp only [List.drop_succ_cons, List.drop_zero]
  try simp only [Act.put, List.setIfInBounds_toArray, List.set_cons_succ, List.set_cons_zero]
  go_upto_region 14 with (at_builtin; go_loud (refine wpList_append_own_at _ rfl _ _ 43 rfl g 24 i0 _ 3 24 Tryd.underlying43 hi0 hz0 hz1 hz2 rfl (by decide) _ _ _ rfl (own_grow ((OW.out _).alloc _) _) ⟨_, 0, none⟩ 1 1 [.int .i64 p0, .int .i64 p1, .int .i64 p2] rfl rfl (cell_newG _ [.int .i64 p0, .int .i64 p1, .int .i64 p2] _ _) (fun u hu => by simp at hu; rcases hu with rfl | rfl | rfl <;> rfl) (by unfold maxLen; omega) (by omega) (Nat.le_trans (Nat.le_of_lt hVl) (@Below.size V.heap.size V _ (by repeat (first | with_reducible exact Below.refl _ _ | with_reducible refine bel_then ?_ _ | with_reducible refine bel_grow ?_ _ | with_reducible refine bel_alloc ?_ _ | with_reducible refine bel_drew ?_ | with_reducible refine bel_set ?_ (by simp) _ | with_reducible refine bel_setRow ?_ (by first | omega | (simp; done)) _)))) ?_); intro v4 w4 hown4 hgr4 hnil4 hat4; clear hnil4; obtain ⟨A4, a4, rfl⟩ := own_form hown4; go_loud (obtain ⟨O4, R4⟩ := HR.out.vertP HI0.out HVC.out HV1.out ns HNS.out _ hgr4 hown4 hat4 (bel_trans hB1V.out (by repeat (first | with_reducible exact Below.refl _ _ | with_reducible refine bel_then ?_ _ | with_reducible refine bel_grow ?_ _ | with_reducible refine bel_alloc ?_ _ | with_reducible refine bel_drew ?_ | with_reducible refine bel_set ?_ (by simp) _ | with_reducible refine bel_setRow ?_ (by first | omega | (simp; done)) _))); have hB4 := ((bel_trans hB1V.out (by repeat (first | with_reducible exact Below.refl _ _ | with_reducible refine bel_then ?_ _ | with_reducible refine bel_grow ?_ _ | with_reducible refine bel_alloc ?_ _ | with_reducible refine bel_drew ?_ | with_reducible refine bel_set ?_ (by simp) _ | with_reducible refine bel_setRow ?_ (by first | omega | (simp; done)) _))).mono (Nat.le_of_lt hgl)).trans (below_gb hgr4 (fun k e => (own_typed (OW.out More.none_) k e).1) (Nat.le_trans (Nat.le_of_lt hVl) (@Below.size V.heap.size V _ (by repeat (first | with_reducible exact Below.refl _ _ | with_reducible refine bel_then ?_ _ | with_reducible refine bel_grow ?_ _ | with_reducible refine bel_alloc ?_ _ | with_reducible refine bel_drew ?_ | with_reducible refine bel_set ?_ (by simp) _ | with_reducible refine bel_setRow ?_ (by first | omega | (simp; done)) _))))); have hcb4 : Blk w4 cB 47 #[.slice A1 (cageAt sc i).verts.length a1, .slice A2' (cageAt sc i).faces.length a2, .slice A3 (cageAt sc i).creases.length a3] := (hgr4.block cB (Nat.lt_of_lt_of_le hcV (@Below.size V.heap.size V _ (by repeat (first | with_reducible exact Below.refl _ _ | with_reducible refine bel_then ?_ _ | with_reducible refine bel_grow ?_ _ | with_reducible refine bel_alloc ?_ _ | with_reducible refine bel_drew ?_ | with_reducible refine bel_set ?_ (by simp) _ | with_reducible refine bel_setRow ?_ (by first | omega | (simp; done)) _)))) (fun e => blk_ne (OW.out More.none_) KBV.out (by decide) e.symm)).trans (KBV.out.below (by repeat (first | with_reducible exact Below.refl _ _ | with_reducible refine bel_then ?_ _ | with_reducible refine bel_grow ?_ _ | with_reducible refine bel_alloc ?_ _ | with_reducible refine bel_drew ?_ | with_reducible refine bel_set ?_ (by simp) _ | with_reducible refine bel_setRow ?_ (by first | omega | (simp; done)) _))); have c4 : w4.cell? ⟨cB, 0, none⟩ = some (.slice A1 (cageAt sc i).verts.length a1) := hcb4.cell 0; have z4 := hcb4.frozen 0; replace R4 := Lib.hid R4; replace hB4 := Lib.hid hB4; replace O4 := Lib.hid O4; replace hcb4 := Lib.hid hcb4; clear hgr4 hown4 hat4))
  refine wp_letter (fun Y hYe => ?_)
  have hYe' := Lib.hid hYe
  have GY : Below g W Y := by rw [hYe]; exact hB4.out.setCell (Nat.le_trans (Nat.le_of_lt hgl) (Nat.le_trans hbV.out.size hcBl)) _
  have yk : Y.cell? ⟨b, off, none⟩ = some (.string ⟨(k).toArray⟩) := (GY.cell (p := ⟨b, off, none⟩) hbg).trans hS
  have hbY : b < Y.heap.size := Nat.lt_of_lt_of_le hbl GY.size
  have hgC : cB ≠ g := fun e => by
    have h1 := HRV2.out.blk
    rw [← e] at h1
    have := h1.symm.trans KBV.out
    injection this with this
    injection this with _ q2
    revert q2; decide
  have KY : Blk Y cB 47 #[.slice A4 ((cageAt sc i).verts.length + 1) a4, .slice A2' (cageAt sc i).faces.length a2, .slice A3 (cageAt sc i).creases.length a3] := by rw [hYe]; exact hcb4.out.set 0 _
  have y0 : Y.cell? ⟨cB, 0, none⟩ = some (.slice A4 ((cageAt sc i).verts.length + 1) a4) := KY.cell 0
  have y1 : Y.cell? ⟨cB, 1, none⟩ = some (.slice A2' (cageAt sc i).faces.length a2) := KY.cell 1
  have y2 : Y.cell? ⟨cB, 2, none⟩ = some (.slice A3 (cageAt sc i).creases.length a3) := KY.cell 2
  have hcY := KY.lt
  have hbCcB : bC ≠ cB := fun e => by have := hbC.out; omega
  have hbCg : bC ≠ g := hbne
  have y23 : Y.cell? ⟨g, 23, none⟩ = some (.slice (some ⟨bC, 0, none⟩) (i + 1) aC) := by
    have h1 : (w4.setCell ⟨bC, i * 3 + 0, none⟩ (.slice A4 ((cageAt sc i).verts.length + 1) a4)).cell? ⟨g, 23, none⟩ = some _ := R4.out.blk.cell 23
    rw [World.cell?_setCell_far _ _ _ _ hbCg] at h1
    rw [hYe, World.cell?_setCell_far _ _ _ _ hgC, h1]
    show some (upd val (.vert i) _ .cages) = _
    simp [upd, HV0.out]
  have hgY : g < Y.heap.size := Nat.lt_of_lt_of_le hgl GY.size
  clear hYe c4 z4
  go_upto_region 26 with fail
  obtain ⟨cur4, HC4, hc4⟩ := row_block O4.out (by have := HI0.out; omega)
  have x1 : cur4[i * 3 + 1]? = some (.slice A2' (cageAt sc i).faces.length a2) := by rw [hc4 _ (by have := HI0.out; omega), (cage_get HI0.out val).2.1, HV2.out]
  have x2 : cur4[i * 3 + 2]? = some (.slice A3 (cageAt sc i).creases.length a3) := by rw [hc4 _ (by have := HI0.out; omega), (cage_get HI0.out val).2.2, HV3.out]
  have hTh := Lib.hid (show ∀ x, (grow Y x).there bC (i * 3) 3 from fun x j hj => by
    have hbY : bC < Y.heap.size := by rw [hYe'.out]; simpa using HC4.lt
    have e1 : (grow Y x).cell? ⟨bC, i * 3 + j, none⟩ = cur4[i * 3 + j]? := ((x.kept Y).cell (p := ⟨bC, i * 3 + j, none⟩) hbY).trans (by rw [hYe'.out, World.cell?_setCell_far _ _ _ _ (Ne.symm hbCcB)]; exact HC4.cell _)
    refine ⟨by rw [e1, hc4 _ (by have := HI0.out; omega)]; rcases (by omega : j = 0 ∨ j = 1 ∨ j = 2) with rfl | rfl | rfl <;> simp [(cage_get HI0.out val).1, (cage_get HI0.out val).2.1, (cage_get HI0.out val).2.2], ?_⟩
    have KC : Blk Y bC 47 cur4 := by rw [hYe'.out]; exact HC4.far 0 _ (Ne.symm hbCcB)
    exact (KC.grow x).frozen _)
  have hEnd := Lib.hid (show ∀ x, RepV g ((grow Y x).setCells bC (i * 3) [.slice A4 ((cageAt sc i).verts.length + 1) a4, .slice A2' (cageAt sc i).faces.length a2, .slice A3 (cageAt sc i).creases.length a3]) g 61 { sc with cages := onLast (fun c => { c with verts := c.verts ++ [ns] }) sc.cages } (upd val (.vert i) (.slice A4 ((cageAt sc i).verts.length + 1) a4)) from fun x => by
    obtain ⟨x', ex⟩ := setCells_grow Y x bC (i * 3) (.slice A4 ((cageAt sc i).verts.length + 1) a4) (.slice A2' (cageAt sc i).faces.length a2) (.slice A3 (cageAt sc i).creases.length a3) (by rw [hYe'.out]; simpa using HC4.lt)
    rw [ex, hYe'.out, setCells_back hbCcB HC4 (k := 0) (by decide) (by simp) (by simpa using x1) (by simpa using x2)]
    exact (R4.out.asideCell (hcb4.out.far _ _ hbCcB) (by
      show (upd val (.vert i) _ .cages).ownBlock ≠ _
      simp [upd, HV0.out, Value.ownBlock, hbCcB]) 0 _).grow x')
  have hBel := Lib.hid (show ∀ x, Below g W ((grow Y x).setCells bC (i * 3) [.slice A4 ((cageAt sc i).verts.length + 1) a4, .slice A2' (cageAt sc i).faces.length a2, .slice A3 (cageAt sc i).creases.length a3]) from fun x => by
    have h1 : Below g W (grow Y x) := GY.trans ((x.kept Y).mono (Nat.le_of_lt hgY))
    exact ((h1.setCell hbg' _).setCell hbg' _).setCell hbg' _)
  have hsubY := isub
  clear hc4 x1 x2 HC4 hYe' R4 O4 hcb4 hB4 GY KY
  refine wp_region_tail 14 ?_ (by kernel_rfl) (by kernel_rfl) (by kernel_rfl) (fun x => ?_) (fun x => ?_)
  rotate_left
  · simp only [List.take_succ_cons, List.take_zero]
    repeat (go_big_quiet_step ((fail)))
    refine wpQuiet_nil ?_
    exact rfl
  simp only [List.drop_succ_cons, List.drop_zero]
  try simp only [Act.put, List.setIfInBounds_toArray, List.set_cons_succ, List.set_cons_zero]
  go_wp2_with (refine wpList_store_mid rfl 47 _ _ rfl bC (i * 3) #[.slice A4 ((cageAt sc i).verts.length + 1) a4, .slice A2' (cageAt sc i).faces.length a2, .slice A3 (cageAt sc i).creases.length a3] rfl rfl (hTh.out _) sizC (by simp [Value.oneCell']) ?_)
  go_ret
  exact readP_ok HS.out (hBel.out _) (hEnd.out _)

end Go.Proofs.YtehmlofhiffanaaDoor

/- The document's own Reader: the line of a crease. -/
namespace Go.Proofs.YtehmlofhiffanaaDoor
open Go.RowKit
set_option linter.unusedVariables false
set_option linter.unusedSimpArgs false
set_option linter.unnecessarySimpa false

theorem IF.atk3 {V : World} {b : Nat} {ns : List Int} (h : IF V (some ⟨b, 0, none⟩) ns) (hl : ns.length = 3) (i : Nat) (hi : i < 3) : V.cell? ⟨b, i, none⟩ = some (.int .i64 (ns.getD i 0)) := h.atk hl i hi
set_option maxRecDepth 100000 in
set_option maxHeartbeats 8000000 in
theorem dpart_c (W : World) (g n c b off : Nat) (sc : Scn) (val : Key → Value) (ws : List Wd) (hn : ws.length = n) (hl : n ≤ 65537) (hc : n + 1 ≤ c) (hbg : b < g) (hA : SFW W (some ⟨b, off, none⟩) (kCrease :: ws)) (hR : RepV g W g 61 sc val) (hI : InvT sc) :
    Calls Tryd.prog 28 #[.pointer (some ⟨g, 0, none⟩), .slice (some ⟨b, off, none⟩) (n + 1) c] W fun e W' => readP g 61 W (partF sc kCrease ws) e W' := by
  obtain ⟨AC, aC, hv, hpos⟩ := cages_form hR
  obtain ⟨i0, hi0, hz0, hz1, hz2⟩ := info_parts infoCr
  obtain ⟨hS, hbl⟩ : W.cell? ⟨b, off, none⟩ = some (.string ⟨(kCrease).toArray⟩) ∧ b < W.heap.size := by
    obtain ⟨b2, off2, q, hb, hcc⟩ := hA (by simp)
    cases q
    exact ⟨by simpa using hcc 0 (by simp), hb⟩
  have hgl := hR.lt
  have hT := hA.tail
  have hT0 := SFW.tail0 (W := W) (b := b) (off := off) (k := kCrease) hn
  have h8 := hI.1.skins.2
  have HI := Lib.hid hI
  have HR := Lib.hid hR
  have E6 := eqk6 kCrease
  have T6 := eqt6 kCrease
  rw [show decide (kCrease = kV) = false from by decide] at E6 T6
  have E7 := eqk7 kCrease
  have T7 := eqt7 kCrease
  rw [show decide (kCrease = kF) = false from by decide] at E7 T7
  have E8 := eqk8 kCrease
  have T8 := eqt8 kCrease
  rw [show decide (kCrease = kCrease) = true from by decide] at E8 T8
  have N7 : (kCrease != [102]) = true := by rw [bne, E7]; rfl
  have M7 : ((⟨(kCrease).toArray⟩ : ByteArray).toList != [102]) = true := by rw [bne, T7]; rfl
  clear hA hR
  have HF := Lib.hid (partC sc ws)
  generalize hk : kCrease = k at *
  by_cases q : n = 3
  rotate_left
  · have e1 : ((n : Int) == 3) = false := (ne_len (m := 3) q).1
    have e2 : ¬ (n : Int) = 3 := (ne_len (m := 3) q).2
    go_enter Tryd.func28, Tryd.ntmps28
    go_wp2_with (go_at_call 42; (with_reducible refine (numbers_any _ _ _ n ws hn hl ?_).mono ?_); (first | exact hT | exact hT0 (by omega) _); rintro e V1 hp; rcases dnums_or hp hn with ⟨hN, rfl, x2, rfl⟩ | ⟨ns, A2, c2, hN, hL, rfl, hbV, hown⟩; rotate_left; (have tk : V1.cell? ⟨b, off, none⟩ = some (.string ⟨(k).toArray⟩) := (hbV.out.cell (p := ⟨b, off, none⟩) hbl).trans hS; have hblV : b < V1.heap.size := Nat.lt_of_lt_of_le hbl hbV.out.size))
    all_goals go_ret
    all_goals first | exact readP_err 10 hgl hbV.out (by rw [HF.out, hN]; have := hL.out; simp; omega) | exact readP_err 10 hgl (by repeat (first | with_reducible exact Below.refl _ _ | with_reducible refine bel_then ?_ _ | with_reducible refine bel_grow ?_ _ | with_reducible refine bel_alloc ?_ _ | with_reducible refine bel_drew ?_ | with_reducible refine bel_set ?_ (by simp) _ | with_reducible refine bel_setRow ?_ (by first | omega | (simp; done)) _)) (by rw [HF.out, hN])
  subst q
  by_cases hC : sc.cages = []
  · have hC0 : sc.cages.length = 0 := by rw [hC]; rfl
    rw [hC0] at hv
    replace hC : sc.cages.getLast? = none := by rw [hC]; rfl
    replace hC := Lib.hid hC
    go_enter Tryd.func28, Tryd.ntmps28
    go_upto_region 6 with (first | (go_at_call 42; (with_reducible refine (numbers_any _ _ _ 3 ws hn hl ?_).mono ?_); (first | exact hT | exact hT0 (by omega) _); rintro e V1 hp; rcases dnums_or hp hn with ⟨hN, rfl, x2, rfl⟩ | ⟨ns, A2, c2, hN, hL, rfl, hbV, hown⟩; rotate_left; (have hbV1 := hbV.out; have HRV := Lib.hid (HR.out.below hbV1); have HIV := Lib.hid (IF_of_own hown.out hL.out); have hVl := HRV.out.lt; have tk : V1.cell? ⟨b, off, none⟩ = some (.string ⟨(k).toArray⟩) := (hbV1.cell (p := ⟨b, off, none⟩) hbl).trans hS; have hblV : b < V1.heap.size := Nat.lt_of_lt_of_le hbl hbV1.size; clear hbV1; have c23 : V1.cell? ⟨g, 23, none⟩ = some (val .cages) := HRV.out.blk.cell 23; rw [hv] at c23)))
    all_goals first | (go_ret; first | exact readP_err 10 hgl (by repeat (first | with_reducible exact Below.refl _ _ | with_reducible refine bel_then ?_ _ | with_reducible refine bel_grow ?_ _ | with_reducible refine bel_alloc ?_ _ | with_reducible refine bel_drew ?_ | with_reducible refine bel_set ?_ (by simp) _ | with_reducible refine bel_setRow ?_ (by first | omega | (simp; done)) _)) (by rw [HF.out, hN]) | exact readP_err 15 hgl (bel_trans hbV.out (by repeat (first | with_reducible exact Below.refl _ _ | with_reducible refine bel_then ?_ _ | with_reducible refine bel_grow ?_ _ | with_reducible refine bel_alloc ?_ _ | with_reducible refine bel_drew ?_ | with_reducible refine bel_set ?_ (by simp) _ | with_reducible refine bel_setRow ?_ (by first | omega | (simp; done)) _))) (by rw [HF.out, hN]; dsimp only; rw [if_neg (by have := hL.out; omega), hC.out])) | skip
  obtain ⟨bC, i, rfl, hi⟩ := hpos (by cases q : sc.cages with | nil => exact absurd q hC | cons a l => simp)
  rw [← hi] at hv
  have HI0 := Lib.hid hi
  have i8 : (i : Int) + 1 ≤ 8 := by omega
  have HV0 := Lib.hid hv
  clear hC hpos hi
  go_enter Tryd.func28, Tryd.ntmps28
  go_upto_region 6 with (first | (go_at_call 42; (with_reducible refine (numbers_any _ _ _ 3 ws hn hl ?_).mono ?_); (first | exact hT | exact hT0 (by omega) _); rintro e V1 hp; rcases dnums_or hp hn with ⟨hN, rfl, x2, rfl⟩ | ⟨ns, A2, c2, hN, hL, rfl, hbV, hown⟩; rotate_left; (have hbV1 := hbV.out; have HRV := Lib.hid (HR.out.below hbV1); have HIV := Lib.hid (IF_of_own hown.out hL.out); have hVl := HRV.out.lt; have tk : V1.cell? ⟨b, off, none⟩ = some (.string ⟨(k).toArray⟩) := (hbV1.cell (p := ⟨b, off, none⟩) hbl).trans hS; have hblV : b < V1.heap.size := Nat.lt_of_lt_of_le hbl hbV1.size; clear hbV1; have c23 : V1.cell? ⟨g, 23, none⟩ = some (val .cages) := HRV.out.blk.cell 23; rw [hv] at c23)))
  all_goals first | (go_ret; first | exact readP_err 10 hgl (by repeat (first | with_reducible exact Below.refl _ _ | with_reducible refine bel_then ?_ _ | with_reducible refine bel_grow ?_ _ | with_reducible refine bel_alloc ?_ _ | with_reducible refine bel_drew ?_ | with_reducible refine bel_set ?_ (by simp) _ | with_reducible refine bel_setRow ?_ (by first | omega | (simp; done)) _)) (by rw [HF.out, hN]) | exact readP_err 15 hgl (bel_trans hbV.out (by repeat (first | with_reducible exact Below.refl _ _ | with_reducible refine bel_then ?_ _ | with_reducible refine bel_grow ?_ _ | with_reducible refine bel_alloc ?_ _ | with_reducible refine bel_drew ?_ | with_reducible refine bel_set ?_ (by simp) _ | with_reducible refine bel_setRow ?_ (by first | omega | (simp; done)) _))) (by rw [HF.out, hN]; dsimp only; rw [if_neg (by have := hL.out; omega), hC.out])) | skip
  obtain ⟨b2, c2', e2, hc2, hb2⟩ := own_cap hown.out (by decide)
  injection e2 with eA _ eC
  subst eA eC
  obtain ⟨⟨A1, a1, HV1, cv⟩, ⟨A2', a2, HV2, cf⟩, ⟨A3, a3, HV3, cc⟩, zb, hbl', hbg', hbne, cur, hbt⟩ := HRV.out.cage_cell HI0.out (by rw [← HI0.out]; exact HV0.out)
  have HVL := Lib.hid ((HI.out.1.cage _ (List.mem_of_getLast? (getLast_at HI0.out))).1)
  have HLIM := Lib.hid (HI.out.1.cage _ (List.mem_of_getLast? (getLast_at HI0.out)))
  have HBT := Lib.hid hbt
  have i0' : (0 : Int) ≤ (i : Int) := by omega
  have i1' : (i : Int) < (i : Int) + 1 := by omega
  have isub : IntKind.i64.wrap ((i : Int) + 1 - 1) = (i : Int) := by rw [show (i : Int) + 1 - 1 = (i : Int) by omega]; exact IntWalk.i64_in _ (by omega)
  clear hbt zb
  refine wp_region_make 14 ?_ 7 (.cells #[.slice none 0 0, .slice none 0 0, .slice none 0 0] 47) (by kernel_rfl) (by kernel_rfl) (by kernel_rfl) (fun d hd => by cases hd; exact ⟨_, rfl, rfl, rfl, fun A u => alloc_Cage A _ rfl u⟩) (fun pp => ?_) (fun pp qq => ?_)
  rotate_left
  · simp only [List.take_succ_cons, List.take_zero]
    repeat (go_big_quiet_step ((fail)))
    refine wpQuiet_nil ?_
    exact rfl
  simp only [List.drop_succ_cons, List.drop_zero]
  try simp only [Act.put, List.setIfInBounds_toArray, List.set_cons_succ, List.set_cons_zero]
  refine wpList_store_rowTo rfl 47 _ _ rfl rfl ((grow V1 pp).heap.size) #[.slice A1 (cageAt sc i).verts.length a1, .slice A2' (cageAt sc i).faces.length a2, .slice A3 (cageAt sc i).creases.length a3] rfl rfl 47 #[.slice none 0 0, .slice none 0 0, .slice none 0 0] (Blk.grow (Blk.new _ _ _ _ rfl) _) sizC rfl (by simp [Value.oneCell']) ?_
  go_upto_region 7 with fail
  refine wp_letter (fun U hUe => ?_)
  have hBU : Below V1.heap.size V1 U := by rw [hUe]; exact bel_setRow (bel_grow (bel_alloc (bel_grow (Below.refl _ _) _) _) _) (by simp [grow_size_le]) _
  obtain ⟨cB, hcB⟩ : ∃ x, x = (grow V1 pp).heap.size := ⟨_, rfl⟩
  have KB : Blk U cB 47 #[.slice A1 (cageAt sc i).verts.length a1, .slice A2' (cageAt sc i).faces.length a2, .slice A3 (cageAt sc i).creases.length a3] := by rw [hUe, hcB]; exact (Blk.grow (Blk.new _ _ _ _ rfl) _).setRow _
  rw [← hcB]
  have hcBl : V1.heap.size ≤ cB := by rw [hcB]; exact (pp.kept V1).size
  clear hUe hcB
  have hB1U : Below W.heap.size W U := bel_trans hbV.out hBU
  have HRU := Lib.hid (HRV.out.below hBU)
  have HIU := Lib.hid (HIV.out.below hBU)
  have uk : U.cell? ⟨b, off, none⟩ = some (.string ⟨(k).toArray⟩) := (hBU.cell (p := ⟨b, off, none⟩) hblV).trans tk
  have hblU : b < U.heap.size := Nat.lt_of_lt_of_le hblV hBU.size
  have k0 : U.cell? ⟨cB, 0, none⟩ = some (.slice A1 (cageAt sc i).verts.length a1) := KB.cell 0
  have k1 : U.cell? ⟨cB, 1, none⟩ = some (.slice A2' (cageAt sc i).faces.length a2) := KB.cell 1
  have k2 : U.cell? ⟨cB, 2, none⟩ = some (.slice A3 (cageAt sc i).creases.length a3) := KB.cell 2
  have kz0 := KB.frozen 0
  have kz1 := KB.frozen 1
  have kz2 := KB.frozen 2
  have hcU := KB.lt
  have HKB := Lib.hid KB
  have u23 : U.cell? ⟨g, 23, none⟩ = some (.slice (some ⟨bC, 0, none⟩) (i + 1) aC) := (hBU.cell (p := ⟨g, 23, none⟩) hVl).trans c23
  have hUl := HRU.out.lt
  have hbC := Lib.hid (Nat.lt_of_lt_of_le hbl' hcBl)
  have hbCU : bC < U.heap.size := Nat.lt_of_lt_of_le hbl' hBU.size
  have v64 : ((cageAt sc i).verts.length : Int) ≤ 64 := by have := HVL.out; omega
  have vw := wrap_pred HVL.out
  have hB1 := Lib.hid hB1U
  have HBU := Lib.hid hBU
  clear tk c23 cv cf cc hBU hB1U KB hVl hblV
  have HIV' := HIV
  clear HIV
  have HIV := HIU
  replace hc2 := Lib.hid hc2
  have hb2U : b2 < U.heap.size := Nat.lt_of_lt_of_le hb2 HBU.out.size
  clear hb2
  go_upto_region 23 with fail
  all_goals first | (go_ret; exact readP_err 13 hgl (bel_trans hB1.out (by repeat (first | with_reducible exact Below.refl _ _ | with_reducible refine bel_then ?_ _ | with_reducible refine bel_grow ?_ _ | with_reducible refine bel_alloc ?_ _ | with_reducible refine bel_drew ?_ | with_reducible refine bel_set ?_ (by simp) _ | with_reducible refine bel_setRow ?_ (by first | omega | (simp; done)) _))) (by rw [HF.out, hN]; dsimp only; rw [if_neg (by have := hL.out; omega), getLast_at HI0.out]; dsimp only; rw [if_pos (by omega)])) | skip
  have hl3 : ns.length = 3 := hL.out
  have HF2 := Lib.hid (show partF sc k ws = if (wi ns 0 2 0 (((cageAt sc i).verts.length : Int) - 1) && !decide (ns.getD 0 0 = ns.getD 1 0) && wi ns 2 3 1 255) then .ok { sc with cages := onLast (fun c => { c with creases := c.creases ++ [ns] }) sc.cages } else .error 11 by
    rw [HF.out, hN]; dsimp only; rw [if_neg (by omega), getLast_at HI0.out]; dsimp only; rw [if_neg (by omega)])
  clear HF hN
  refine wp_letter (fun V hVe => ?_)
  have hUV : Below U.heap.size U V := by rw [hVe]; (repeat (first | with_reducible exact Below.refl _ _ | with_reducible refine bel_then ?_ _ | with_reducible refine bel_grow ?_ _ | with_reducible refine bel_alloc ?_ _ | with_reducible refine bel_drew ?_ | with_reducible refine bel_set ?_ (by simp) _ | with_reducible refine bel_setRow ?_ (by first | omega | (simp; done)) _))
  clear hVe
  have hB1V : Below W.heap.size W V := bel_trans hB1.out hUV
  have HRV2 := Lib.hid (HRU.out.below hUV)
  have HIV2 := Lib.hid (HIU.out.below hUV)
  have KBV := Lib.hid (HKB.out.below hUV)
  have hb2V : b2 < V.heap.size := Nat.lt_of_lt_of_le hb2U hUV.size
  have hl3h := Lib.hid hl3
  obtain ⟨p0, hp0⟩ : ∃ p, p = ns.getD 0 0 := ⟨_, rfl⟩
  obtain ⟨p1, hp1⟩ : ∃ p, p = ns.getD 1 0 := ⟨_, rfl⟩
  obtain ⟨p2, hp2⟩ : ∃ p, p = ns.getD 2 0 := ⟨_, rfl⟩
  have d0 : V.cell? ⟨b2, 0, none⟩ = some (.int .i64 p0) := by rw [hp0]; exact HIV2.out.atk3 hl3 0 (by decide)
  have d1 : V.cell? ⟨b2, 1, none⟩ = some (.int .i64 p1) := by rw [hp1]; exact HIV2.out.atk3 hl3 1 (by decide)
  have d2 : V.cell? ⟨b2, 2, none⟩ = some (.int .i64 p2) := by rw [hp2]; exact HIV2.out.atk3 hl3 2 (by decide)
  rw [← hp0, ← hp1] at HF2
  have HNS := Lib.hid (show [Value.int .i64 (ns.getD 0 0), Value.int .i64 (ns.getD 1 0), Value.int .i64 (ns.getD 2 0)] = [.int .i64 p0, .int .i64 p1, .int .i64 p2] by rw [hp0, hp1, hp2])
  clear hp0 hp1 hp2 hl3
  have HVC := Lib.hid (show val .cages = .slice (some ⟨bC, 0, none⟩) sc.cages.length aC by rw [← HI0.out]; exact HV0.out)
  replace hB1V := Lib.hid hB1V
  replace hUV := Lib.hid hUV
  have HUk := Lib.hid (show V.cell? ⟨b, off, none⟩ = some (.string ⟨(k).toArray⟩) from (hUV.out.cell (p := ⟨b, off, none⟩) hblU).trans uk)
  clear hown hp uk u23 k0 k1 k2 kz0 kz1 kz2 hcU hUl hbCU hblU HIV HIV' hb2U
  cases q1 : wi ns 0 2 0 (((cageAt sc i).verts.length : Int) - 1)
  · have C1 := Lib.hid (fun (x : More) => dwr (grow V x) (some ⟨b2, 0, none⟩) 3 c2 0 2 0 2 0 (((cageAt sc i).verts.length : Int) - 1) ns _ rfl rfl q1 hL.out (by decide) (by decide) (by decide) (HIV2.out.below (bel_grow (Below.refl _ _) x)))
    replace q1 := Lib.hid q1
    refine wp_region_tail 17 ?_ (by kernel_rfl) (by kernel_rfl) (by kernel_rfl) (fun x => ?_) (fun x => ?_)
    rotate_left
    · simp only [List.take_succ_cons, List.take_zero]
      repeat (go_big_quiet_step (((first | with_reducible exact qq1 (C1.out _) | with_reducible exact qq2 (C1.out _)))))
      refine wpQuiet_nil ?_
      exact rfl
    simp only [List.drop_succ_cons, List.drop_zero]
    try simp only [Act.put, List.setIfInBounds_toArray, List.set_cons_succ, List.set_cons_zero]
    go_wp2_with fail
    go_ret
    exact readP_err 11 hgl (bel_trans hB1V.out (by repeat (first | with_reducible exact Below.refl _ _ | with_reducible refine bel_then ?_ _ | with_reducible refine bel_grow ?_ _ | with_reducible refine bel_alloc ?_ _ | with_reducible refine bel_drew ?_ | with_reducible refine bel_set ?_ (by simp) _ | with_reducible refine bel_setRow ?_ (by first | omega | (simp; done)) _))) (by rw [HF2.out, if_neg (by rw [q1.out]; simp)])
  have C1 := Lib.hid (fun (x : More) => dwr (grow V x) (some ⟨b2, 0, none⟩) 3 c2 0 2 0 2 0 (((cageAt sc i).verts.length : Int) - 1) ns _ rfl rfl q1 hL.out (by decide) (by decide) (by decide) (HIV2.out.below (bel_grow (Below.refl _ _) x)))
  replace q1 := Lib.hid q1
  by_cases hs0 : p0 = p1
  · subst hs0
    refine wp_region_tail 17 ?_ (by kernel_rfl) (by kernel_rfl) (by kernel_rfl) (fun x => ?_) (fun x => ?_)
    rotate_left
    · simp only [List.take_succ_cons, List.take_zero]
      repeat (go_big_quiet_step (((first | with_reducible exact qq1 (C1.out _) | with_reducible exact qq2 (C1.out _)))))
      refine wpQuiet_nil ?_
      exact rfl
    simp only [List.drop_succ_cons, List.drop_zero]
    try simp only [Act.put, List.setIfInBounds_toArray, List.set_cons_succ, List.set_cons_zero]
    go_wp2_with fail
    go_ret
    exact readP_err 11 hgl (bel_trans hB1V.out (by repeat (first | with_reducible exact Below.refl _ _ | with_reducible refine bel_then ?_ _ | with_reducible refine bel_grow ?_ _ | with_reducible refine bel_alloc ?_ _ | with_reducible refine bel_drew ?_ | with_reducible refine bel_set ?_ (by simp) _ | with_reducible refine bel_setRow ?_ (by first | omega | (simp; done)) _))) (by rw [HF2.out, if_neg (by rw [q1.out]; simp)])
  have hs1 : (p0 == p1) = false := by rw [beq_eq_false_iff_ne]; exact hs0
  have hs := Lib.hid (show decide (p0 = p1) = false by simpa using hs0)
  cases q2 : wi ns 2 3 1 255
  · have C2 := Lib.hid (fun (x : More) => dwr (grow V x) (some ⟨b2, 0, none⟩) 3 c2 2 3 2 3 1 (255) ns _ rfl rfl q2 hL.out (by decide) (by decide) (by decide) (HIV2.out.below (bel_grow (Below.refl _ _) x)))
    replace q2 := Lib.hid q2
    refine wp_region_tail 17 ?_ (by kernel_rfl) (by kernel_rfl) (by kernel_rfl) (fun x => ?_) (fun x => ?_)
    rotate_left
    · simp only [List.take_succ_cons, List.take_zero]
      repeat (go_big_quiet_step (((first | with_reducible exact qq1 (C1.out _) | with_reducible exact qq2 (C1.out _) | with_reducible exact qq1 (C2.out _) | with_reducible exact qq2 (C2.out _)))))
      refine wpQuiet_nil ?_
      exact rfl
    simp only [List.drop_succ_cons, List.drop_zero]
    try simp only [Act.put, List.setIfInBounds_toArray, List.set_cons_succ, List.set_cons_zero]
    go_wp2_with fail
    go_ret
    exact readP_err 11 hgl (bel_trans hB1V.out (by repeat (first | with_reducible exact Below.refl _ _ | with_reducible refine bel_then ?_ _ | with_reducible refine bel_grow ?_ _ | with_reducible refine bel_alloc ?_ _ | with_reducible refine bel_drew ?_ | with_reducible refine bel_set ?_ (by simp) _ | with_reducible refine bel_setRow ?_ (by first | omega | (simp; done)) _))) (by rw [HF2.out, if_neg (by rw [q1.out, hs.out, q2.out]; simp)])
  have C2 := Lib.hid (fun (x : More) => dwr (grow V x) (some ⟨b2, 0, none⟩) 3 c2 2 3 2 3 1 (255) ns _ rfl rfl q2 hL.out (by decide) (by decide) (by decide) (HIV2.out.below (bel_grow (Below.refl _ _) x)))
  replace q2 := Lib.hid q2
  have HS := Lib.hid (show partF sc k ws = .ok { sc with cages := onLast (fun c => { c with creases := c.creases ++ [ns] }) sc.cages } by
    rw [HF2.out, q1.out, hs.out, q2.out]; rfl)
  clear HF2 q1 q2 hs
  refine wp_region_tail 17 ?_ (by kernel_rfl) (by kernel_rfl) (by kernel_rfl) (fun x => ?_) (fun x => ?_)
  rotate_left
  · simp only [List.take_succ_cons, List.take_zero]
    repeat (go_big_quiet_step (((first | with_reducible exact qq1 (C1.out _) | with_reducible exact qq2 (C1.out _) | with_reducible exact qq1 (C2.out _) | with_reducible exact qq2 (C2.out _)))))
    refine wpQuiet_nil ?_
    exact rfl
  simp only [List.drop_succ_cons, List.drop_zero]
  try simp only [Act.put, List.setIfInBounds_toArray, List.set_cons_succ, List.set_cons_zero]
  go_upto_region 25 with fail
  clear C1 C2 hs0 hs1
  refine wp_letter (fun Z hZe => ?_)
  have hVZ : Below V.heap.size V Z := by rw [hZe]; (repeat (first | with_reducible exact Below.refl _ _ | with_reducible refine bel_then ?_ _ | with_reducible refine bel_grow ?_ _ | with_reducible refine bel_alloc ?_ _ | with_reducible refine bel_drew ?_ | with_reducible refine bel_set ?_ (by simp) _ | with_reducible refine bel_setRow ?_ (by first | omega | (simp; done)) _))
  clear hZe
  have HRZ := Lib.hid (HRV2.out.below hVZ)
  have KBZ := KBV.out.below hVZ
  have d02 : Z.cell? ⟨b2, 0, none⟩ = some (.int .i64 p0) := (hVZ.cell (p := ⟨b2, 0, none⟩) hb2V).trans d0
  have d12 : Z.cell? ⟨b2, 1, none⟩ = some (.int .i64 p1) := (hVZ.cell (p := ⟨b2, 1, none⟩) hb2V).trans d1
  have d22 : Z.cell? ⟨b2, 2, none⟩ = some (.int .i64 p2) := (hVZ.cell (p := ⟨b2, 2, none⟩) hb2V).trans d2
  have k2 : Z.cell? ⟨cB, 2, none⟩ = some (.slice A3 (cageAt sc i).creases.length a3) := KBZ.cell 2
  have kz2 := KBZ.frozen 2
  have hcZ := KBZ.lt
  have hVl := HRZ.out.lt
  have hb2Z : b2 < Z.heap.size := Nat.lt_of_lt_of_le hb2V hVZ.size
  have hB1Z := Lib.hid (bel_trans hB1V.out hVZ)
  replace KBZ := Lib.hid KBZ
  replace hVZ := Lib.hid hVZ
  have OW := Lib.hid (show ∀ x, (grow Z x).ownsRow g 76 3 (.slice A3 (cageAt sc i).creases.length a3) (cageAt sc i).creases.length (flat3 (cageAt sc i).creases) from fun x => by
    rw [← HV3.out]; exact (HRZ.out.grow x).own.row (.crease i))
  clear d0 d1 d2 hb2V
  refine wp_region_makeF 12 ?_ (.pointer (some ⟨cB, 2, none⟩)) 145 (.cells #[.int .i64 p0, .int .i64 p1, .int .i64 p2] 76) (by kernel_rfl) (by kernel_rfl) (by kernel_rfl) (fun w => by simp [execOp, go_sem]) rfl (fun _ _ _ h => h) ?_ (fun x => ?_) (fun x y => ?_)
  rotate_left 2
  · simp only [List.take_succ_cons, List.take_zero, List.tail_cons, Act.put, List.setIfInBounds_toArray, List.set_cons_succ, List.set_cons_zero]
    repeat (go_big_quiet_step ((fail)))
    refine wpQuiet_nil ?_
    exact rfl
  rotate_left
  · exact ⟨_, rfl, rfl, rfl, fun u => by simp [execOp, go_sem]⟩
  simp only [List.drop_succ_cons, List.drop_zero]
  try simp only [Act.put, List.setIfInBounds_toArray, List.set_cons_succ, List.set_cons_zero]
  go_upto_region 26 with (at_builtin; go_loud (refine wpList_append_own_at _ rfl _ _ 45 rfl g 76 i0 _ 3 24 Tryd.underlying45 hi0 hz0 hz1 hz2 rfl (by decide) _ _ _ rfl (own_grow ((OW.out _).alloc _) _) ⟨_, 0, none⟩ 1 1 [.int .i64 p0, .int .i64 p1, .int .i64 p2] rfl rfl (cell_newG _ [.int .i64 p0, .int .i64 p1, .int .i64 p2] _ _) (fun u hu => by simp at hu; rcases hu with rfl | rfl | rfl <;> rfl) (by unfold maxLen; omega) (by omega) (Nat.le_trans (Nat.le_of_lt hVl) (@Below.size Z.heap.size Z _ (by repeat (first | with_reducible exact Below.refl _ _ | with_reducible refine bel_then ?_ _ | with_reducible refine bel_grow ?_ _ | with_reducible refine bel_alloc ?_ _ | with_reducible refine bel_drew ?_ | with_reducible refine bel_set ?_ (by simp) _ | with_reducible refine bel_setRow ?_ (by first | omega | (simp; done)) _)))) ?_); intro v4 w4 hown4 hgr4 hnil4 hat4; clear hnil4; obtain ⟨A4, a4, rfl⟩ := own_form hown4; go_loud (obtain ⟨O4, R4⟩ := HR.out.creaseP HI0.out HVC.out HV3.out ns HNS.out _ hgr4 hown4 hat4 (bel_trans hB1Z.out (by repeat (first | with_reducible exact Below.refl _ _ | with_reducible refine bel_then ?_ _ | with_reducible refine bel_grow ?_ _ | with_reducible refine bel_alloc ?_ _ | with_reducible refine bel_drew ?_ | with_reducible refine bel_set ?_ (by simp) _ | with_reducible refine bel_setRow ?_ (by first | omega | (simp; done)) _))); have hB4 := ((bel_trans hB1Z.out (by repeat (first | with_reducible exact Below.refl _ _ | with_reducible refine bel_then ?_ _ | with_reducible refine bel_grow ?_ _ | with_reducible refine bel_alloc ?_ _ | with_reducible refine bel_drew ?_ | with_reducible refine bel_set ?_ (by simp) _ | with_reducible refine bel_setRow ?_ (by first | omega | (simp; done)) _))).mono (Nat.le_of_lt hgl)).trans (below_gb hgr4 (fun k e => (own_typed (OW.out More.none_) k e).1) (Nat.le_trans (Nat.le_of_lt hVl) (@Below.size Z.heap.size Z _ (by repeat (first | with_reducible exact Below.refl _ _ | with_reducible refine bel_then ?_ _ | with_reducible refine bel_grow ?_ _ | with_reducible refine bel_alloc ?_ _ | with_reducible refine bel_drew ?_ | with_reducible refine bel_set ?_ (by simp) _ | with_reducible refine bel_setRow ?_ (by first | omega | (simp; done)) _))))); have hcb4 : Blk w4 cB 47 #[.slice A1 (cageAt sc i).verts.length a1, .slice A2' (cageAt sc i).faces.length a2, .slice A3 (cageAt sc i).creases.length a3] := (hgr4.block cB (Nat.lt_of_lt_of_le hcZ (@Below.size Z.heap.size Z _ (by repeat (first | with_reducible exact Below.refl _ _ | with_reducible refine bel_then ?_ _ | with_reducible refine bel_grow ?_ _ | with_reducible refine bel_alloc ?_ _ | with_reducible refine bel_drew ?_ | with_reducible refine bel_set ?_ (by simp) _ | with_reducible refine bel_setRow ?_ (by first | omega | (simp; done)) _)))) (fun e => blk_ne (OW.out More.none_) KBZ.out (by decide) e.symm)).trans (KBZ.out.below (by repeat (first | with_reducible exact Below.refl _ _ | with_reducible refine bel_then ?_ _ | with_reducible refine bel_grow ?_ _ | with_reducible refine bel_alloc ?_ _ | with_reducible refine bel_drew ?_ | with_reducible refine bel_set ?_ (by simp) _ | with_reducible refine bel_setRow ?_ (by first | omega | (simp; done)) _))); have c4 : w4.cell? ⟨cB, 2, none⟩ = some (.slice A3 (cageAt sc i).creases.length a3) := hcb4.cell 2; have z4 := hcb4.frozen 2; replace R4 := Lib.hid R4; replace hB4 := Lib.hid hB4; replace O4 := Lib.hid O4; replace hcb4 := Lib.hid hcb4; clear hgr4 hown4 hat4))
  refine wp_letter (fun Y hYe => ?_)
  have hYe' := Lib.hid hYe
  have GY : Below g W Y := by rw [hYe]; exact hB4.out.setCell (Nat.le_trans (Nat.le_of_lt hgl) (Nat.le_trans hbV.out.size hcBl)) _
  have yk : Y.cell? ⟨b, off, none⟩ = some (.string ⟨(k).toArray⟩) := (GY.cell (p := ⟨b, off, none⟩) hbg).trans hS
  have hbY : b < Y.heap.size := Nat.lt_of_lt_of_le hbl GY.size
  have hgC : cB ≠ g := fun e => by
    have h1 := HRZ.out.blk
    rw [← e] at h1
    have := h1.symm.trans KBZ.out
    injection this with this
    injection this with _ q2
    revert q2; decide
  have KY : Blk Y cB 47 #[.slice A1 (cageAt sc i).verts.length a1, .slice A2' (cageAt sc i).faces.length a2, .slice A4 ((cageAt sc i).creases.length + 1) a4] := by rw [hYe]; exact hcb4.out.set 2 _
  have y0 : Y.cell? ⟨cB, 0, none⟩ = some (.slice A1 (cageAt sc i).verts.length a1) := KY.cell 0
  have y1 : Y.cell? ⟨cB, 1, none⟩ = some (.slice A2' (cageAt sc i).faces.length a2) := KY.cell 1
  have y2 : Y.cell? ⟨cB, 2, none⟩ = some (.slice A4 ((cageAt sc i).creases.length + 1) a4) := KY.cell 2
  have hcY := KY.lt
  have hbCcB : bC ≠ cB := fun e => by have := hbC.out; omega
  have hbCg : bC ≠ g := hbne
  have y23 : Y.cell? ⟨g, 23, none⟩ = some (.slice (some ⟨bC, 0, none⟩) (i + 1) aC) := by
    have h1 : (w4.setCell ⟨bC, i * 3 + 2, none⟩ (.slice A4 ((cageAt sc i).creases.length + 1) a4)).cell? ⟨g, 23, none⟩ = some _ := R4.out.blk.cell 23
    rw [World.cell?_setCell_far _ _ _ _ hbCg] at h1
    rw [hYe, World.cell?_setCell_far _ _ _ _ hgC, h1]
    show some (upd val (.crease i) (.slice A4 ((cageAt sc i).creases.length + 1) a4) .cages) = _
    simp [upd, HV0.out]
  have hgY : g < Y.heap.size := Nat.lt_of_lt_of_le hgl GY.size
  clear hYe c4 z4
  obtain ⟨cur4, HC4, hc4⟩ := row_block O4.out (by have := HI0.out; omega)
  have x0 : cur4[i * 3]? = some (.slice A1 (cageAt sc i).verts.length a1) := by rw [hc4 _ (by have := HI0.out; omega), (cage_get HI0.out val).1, HV1.out]
  have x1 : cur4[i * 3 + 1]? = some (.slice A2' (cageAt sc i).faces.length a2) := by rw [hc4 _ (by have := HI0.out; omega), (cage_get HI0.out val).2.1, HV2.out]
  have hTh := Lib.hid (show ∀ x, (grow Y x).there bC (i * 3) 3 from fun x j hj => by
    have hbY : bC < Y.heap.size := by rw [hYe'.out]; simpa using HC4.lt
    have e1 : (grow Y x).cell? ⟨bC, i * 3 + j, none⟩ = cur4[i * 3 + j]? := ((x.kept Y).cell (p := ⟨bC, i * 3 + j, none⟩) hbY).trans (by rw [hYe'.out, World.cell?_setCell_far _ _ _ _ (Ne.symm hbCcB)]; exact HC4.cell _)
    refine ⟨by rw [e1, hc4 _ (by have := HI0.out; omega)]; rcases (by omega : j = 0 ∨ j = 1 ∨ j = 2) with rfl | rfl | rfl <;> simp [(cage_get HI0.out val).1, (cage_get HI0.out val).2.1, (cage_get HI0.out val).2.2], ?_⟩
    have KC : Blk Y bC 47 cur4 := by rw [hYe'.out]; exact HC4.far 2 _ (Ne.symm hbCcB)
    exact (KC.grow x).frozen _)
  have hEnd := Lib.hid (show ∀ x, RepV g ((grow Y x).setCells bC (i * 3) [.slice A1 (cageAt sc i).verts.length a1, .slice A2' (cageAt sc i).faces.length a2, .slice A4 ((cageAt sc i).creases.length + 1) a4]) g 61 { sc with cages := onLast (fun c => { c with creases := c.creases ++ [ns] }) sc.cages } (upd val (.crease i) (.slice A4 ((cageAt sc i).creases.length + 1) a4)) from fun x => by
    obtain ⟨x', ex⟩ := setCells_grow Y x bC (i * 3) (.slice A1 (cageAt sc i).verts.length a1) (.slice A2' (cageAt sc i).faces.length a2) (.slice A4 ((cageAt sc i).creases.length + 1) a4) (by rw [hYe'.out]; simpa using HC4.lt)
    rw [ex, hYe'.out, setCells_back hbCcB HC4 (k := 2) (by decide) (by simpa using x0) (by simpa using x1) (by simp)]
    exact (R4.out.asideCell (hcb4.out.far _ _ hbCcB) (by
      show (upd val (.crease i) (.slice A4 ((cageAt sc i).creases.length + 1) a4) .cages).ownBlock ≠ _
      simp [upd, HV0.out, Value.ownBlock, hbCcB]) 2 _).grow x')
  have hBel := Lib.hid (show ∀ x, Below g W ((grow Y x).setCells bC (i * 3) [.slice A1 (cageAt sc i).verts.length a1, .slice A2' (cageAt sc i).faces.length a2, .slice A4 ((cageAt sc i).creases.length + 1) a4]) from fun x => by
    have h1 : Below g W (grow Y x) := GY.trans ((x.kept Y).mono (Nat.le_of_lt hgY))
    exact ((h1.setCell hbg' _).setCell hbg' _).setCell hbg' _)
  have hsubY := isub
  clear hc4 x0 x1 HC4 hYe' R4 O4 hcb4 hB4 GY KY
  refine wp_region_tail 14 ?_ (by kernel_rfl) (by kernel_rfl) (by kernel_rfl) (fun x => ?_) (fun x => ?_)
  rotate_left
  · simp only [List.take_succ_cons, List.take_zero]
    repeat (go_big_quiet_step ((fail)))
    refine wpQuiet_nil ?_
    exact rfl
  simp only [List.drop_succ_cons, List.drop_zero]
  try simp only [Act.put, List.setIfInBounds_toArray, List.set_cons_succ, List.set_cons_zero]
  go_wp2_with (refine wpList_store_mid rfl 47 _ _ rfl bC (i * 3) #[.slice A1 (cageAt sc i).verts.length a1, .slice A2' (cageAt sc i).faces.length a2, .slice A4 ((cageAt sc i).creases.length + 1) a4] rfl rfl (hTh.out _) sizC (by simp [Value.oneCell']) ?_)
  go_ret
  exact readP_ok HS.out (hBel.out _) (hEnd.out _)

end Go.Proofs.YtehmlofhiffanaaDoor

/- The document's own Reader: the line of a face. -/
namespace Go.Proofs.YtehmlofhiffanaaDoor
open Go.RowKit
set_option linter.unusedVariables false
set_option linter.unusedSimpArgs false
set_option linter.unnecessarySimpa false

theorem dw_0_n (W : World) (A : Option Addr) (n c : Nat) (lo hi : Int) (ns : List Int) (hn : ns.length = n) (hn2 : n ≤ 1048576) (hb : 0 ≤ n) (hI : IF W A ns) :
    Calls Tryd.prog 43 #[.slice A n c, .int .i64 0, .int .i64 (n : Int), .int .i64 lo, .int .i64 hi] W fun e w' => ((wi ns 0 n lo hi = true ∧ e = .returned (.bool true)) ∨ (wi ns 0 n lo hi = false ∧ e = .returned (.bool false))) ∧ ∃ x, w' = grow W x :=
  dwithin W A n c 0 n 0 n lo hi ns rfl rfl hn hn2 hb (Nat.le_refl _) hI
set_option maxRecDepth 100000 in
set_option maxHeartbeats 8000000 in
theorem dpart_f (W : World) (g n c b off : Nat) (sc : Scn) (val : Key → Value) (ws : List Wd) (hn : ws.length = n) (hl : n ≤ 65537) (hc : n + 1 ≤ c) (hbg : b < g) (hA : SFW W (some ⟨b, off, none⟩) (kF :: ws)) (hR : RepV g W g 61 sc val) (hI : InvT sc) :
    Calls Tryd.prog 28 #[.pointer (some ⟨g, 0, none⟩), .slice (some ⟨b, off, none⟩) (n + 1) c] W fun e W' => readP g 61 W (partF sc kF ws) e W' := by
  obtain ⟨AC, aC, hv, hpos⟩ := cages_form hR
  obtain ⟨i0, hi0, hz0, hz1, hz2⟩ := info_parts infoIs
  obtain ⟨hS, hbl⟩ : W.cell? ⟨b, off, none⟩ = some (.string ⟨(kF).toArray⟩) ∧ b < W.heap.size := by
    obtain ⟨b2, off2, q, hb, hcc⟩ := hA (by simp)
    cases q
    exact ⟨by simpa using hcc 0 (by simp), hb⟩
  have hgl := hR.lt
  have hT := hA.tail
  have hT0 := SFW.tail0 (W := W) (b := b) (off := off) (k := kF) hn
  have h8 := hI.1.skins.2
  have HI := Lib.hid hI
  have HR := Lib.hid hR
  have E6 := eqk6 kF
  have T6 := eqt6 kF
  rw [show decide (kF = kV) = false from by decide] at E6 T6
  have E7 := eqk7 kF
  have T7 := eqt7 kF
  rw [show decide (kF = kF) = true from by decide] at E7 T7
  have E8 := eqk8 kF
  have T8 := eqt8 kF
  rw [show decide (kF = kCrease) = false from by decide] at E8 T8
  have N7 : (kF != [102]) = false := by rw [bne, E7]; rfl
  have M7 : ((⟨(kF).toArray⟩ : ByteArray).toList != [102]) = false := by rw [bne, T7]; rfl
  clear hA hR
  have HF := Lib.hid (partFc sc ws)
  generalize hk : kF = k at *
  rcases (by omega : ((n : Int) < 3 ∧ ¬ (3 : Int) ≤ (n : Int)) ∨ ((3 : Int) ≤ (n : Int) ∧ (n : Int) ≤ 8) ∨ ((3 : Int) ≤ (n : Int) ∧ ¬ (n : Int) ≤ 8 ∧ 8 < (n : Int))) with ⟨hq, hq2⟩ | ⟨hq, hq2⟩ | ⟨hq, hq2, hq3⟩
  · go_enter Tryd.func28, Tryd.ntmps28
    go_wp2_with (go_at_call 42; (with_reducible refine (numbers_any _ _ _ n ws hn hl ?_).mono ?_); (first | exact hT | exact hT0 (by omega) _); rintro e V1 hp; rcases dnums_or hp hn with ⟨hN, rfl, x2, rfl⟩ | ⟨ns, A2, c2, hN, hL, rfl, hbV, hown⟩; rotate_left; (have tk : V1.cell? ⟨b, off, none⟩ = some (.string ⟨(k).toArray⟩) := (hbV.out.cell (p := ⟨b, off, none⟩) hbl).trans hS; have hblV : b < V1.heap.size := Nat.lt_of_lt_of_le hbl hbV.out.size))
    all_goals go_ret
    all_goals first | exact readP_err 10 hgl hbV.out (by rw [HF.out, hN]; have := hL.out; dsimp only; rw [if_pos (by omega)]) | exact readP_err 10 hgl (by repeat (first | with_reducible exact Below.refl _ _ | with_reducible refine bel_then ?_ _ | with_reducible refine bel_grow ?_ _ | with_reducible refine bel_alloc ?_ _ | with_reducible refine bel_drew ?_ | with_reducible refine bel_set ?_ (by simp) _ | with_reducible refine bel_setRow ?_ (by first | omega | (simp; done)) _)) (by rw [HF.out, hN])
  rotate_left
  · go_enter Tryd.func28, Tryd.ntmps28
    go_wp2_with (go_at_call 42; (with_reducible refine (numbers_any _ _ _ n ws hn hl ?_).mono ?_); (first | exact hT | exact hT0 (by omega) _); rintro e V1 hp; rcases dnums_or hp hn with ⟨hN, rfl, x2, rfl⟩ | ⟨ns, A2, c2, hN, hL, rfl, hbV, hown⟩; rotate_left; (have tk : V1.cell? ⟨b, off, none⟩ = some (.string ⟨(k).toArray⟩) := (hbV.out.cell (p := ⟨b, off, none⟩) hbl).trans hS; have hblV : b < V1.heap.size := Nat.lt_of_lt_of_le hbl hbV.out.size))
    all_goals go_ret
    all_goals first | exact readP_err 10 hgl hbV.out (by rw [HF.out, hN]; have := hL.out; dsimp only; rw [if_pos (by omega)]) | exact readP_err 10 hgl (by repeat (first | with_reducible exact Below.refl _ _ | with_reducible refine bel_then ?_ _ | with_reducible refine bel_grow ?_ _ | with_reducible refine bel_alloc ?_ _ | with_reducible refine bel_drew ?_ | with_reducible refine bel_set ?_ (by simp) _ | with_reducible refine bel_setRow ?_ (by first | omega | (simp; done)) _)) (by rw [HF.out, hN])
  by_cases hC : sc.cages = []
  · have hC0 : sc.cages.length = 0 := by rw [hC]; rfl
    rw [hC0] at hv
    replace hC : sc.cages.getLast? = none := by rw [hC]; rfl
    replace hC := Lib.hid hC
    go_enter Tryd.func28, Tryd.ntmps28
    go_upto_region 6 with (first | (go_at_call 42; (with_reducible refine (numbers_any _ _ _ n ws hn hl ?_).mono ?_); (first | exact hT | exact hT0 (by omega) _); rintro e V1 hp; rcases dnums_or hp hn with ⟨hN, rfl, x2, rfl⟩ | ⟨ns, A2, c2, hN, hL, rfl, hbV, hown⟩; rotate_left; (have hbV1 := hbV.out; have HRV := Lib.hid (HR.out.below hbV1); have HIV := Lib.hid (IF_of_own hown.out hL.out); have hVl := HRV.out.lt; have tk : V1.cell? ⟨b, off, none⟩ = some (.string ⟨(k).toArray⟩) := (hbV1.cell (p := ⟨b, off, none⟩) hbl).trans hS; have hblV : b < V1.heap.size := Nat.lt_of_lt_of_le hbl hbV1.size; clear hbV1; have c23 : V1.cell? ⟨g, 23, none⟩ = some (val .cages) := HRV.out.blk.cell 23; rw [hv] at c23)))
    all_goals first | (go_ret; first | exact readP_err 10 hgl (by repeat (first | with_reducible exact Below.refl _ _ | with_reducible refine bel_then ?_ _ | with_reducible refine bel_grow ?_ _ | with_reducible refine bel_alloc ?_ _ | with_reducible refine bel_drew ?_ | with_reducible refine bel_set ?_ (by simp) _ | with_reducible refine bel_setRow ?_ (by first | omega | (simp; done)) _)) (by rw [HF.out, hN]) | exact readP_err 15 hgl (bel_trans hbV.out (by repeat (first | with_reducible exact Below.refl _ _ | with_reducible refine bel_then ?_ _ | with_reducible refine bel_grow ?_ _ | with_reducible refine bel_alloc ?_ _ | with_reducible refine bel_drew ?_ | with_reducible refine bel_set ?_ (by simp) _ | with_reducible refine bel_setRow ?_ (by first | omega | (simp; done)) _))) (by rw [HF.out, hN]; dsimp only; rw [if_neg (by have := hL.out; omega), hC.out])) | skip
  obtain ⟨bC, i, rfl, hi⟩ := hpos (by cases q : sc.cages with | nil => exact absurd q hC | cons a l => simp)
  rw [← hi] at hv
  have HI0 := Lib.hid hi
  have i8 : (i : Int) + 1 ≤ 8 := by omega
  have HV0 := Lib.hid hv
  clear hC hpos hi
  go_enter Tryd.func28, Tryd.ntmps28
  go_upto_region 6 with (first | (go_at_call 42; (with_reducible refine (numbers_any _ _ _ n ws hn hl ?_).mono ?_); (first | exact hT | exact hT0 (by omega) _); rintro e V1 hp; rcases dnums_or hp hn with ⟨hN, rfl, x2, rfl⟩ | ⟨ns, A2, c2, hN, hL, rfl, hbV, hown⟩; rotate_left; (have hbV1 := hbV.out; have HRV := Lib.hid (HR.out.below hbV1); have HIV := Lib.hid (IF_of_own hown.out hL.out); have hVl := HRV.out.lt; have tk : V1.cell? ⟨b, off, none⟩ = some (.string ⟨(k).toArray⟩) := (hbV1.cell (p := ⟨b, off, none⟩) hbl).trans hS; have hblV : b < V1.heap.size := Nat.lt_of_lt_of_le hbl hbV1.size; clear hbV1; have c23 : V1.cell? ⟨g, 23, none⟩ = some (val .cages) := HRV.out.blk.cell 23; rw [hv] at c23)))
  all_goals first | (go_ret; first | exact readP_err 10 hgl (by repeat (first | with_reducible exact Below.refl _ _ | with_reducible refine bel_then ?_ _ | with_reducible refine bel_grow ?_ _ | with_reducible refine bel_alloc ?_ _ | with_reducible refine bel_drew ?_ | with_reducible refine bel_set ?_ (by simp) _ | with_reducible refine bel_setRow ?_ (by first | omega | (simp; done)) _)) (by rw [HF.out, hN]) | exact readP_err 15 hgl (bel_trans hbV.out (by repeat (first | with_reducible exact Below.refl _ _ | with_reducible refine bel_then ?_ _ | with_reducible refine bel_grow ?_ _ | with_reducible refine bel_alloc ?_ _ | with_reducible refine bel_drew ?_ | with_reducible refine bel_set ?_ (by simp) _ | with_reducible refine bel_setRow ?_ (by first | omega | (simp; done)) _))) (by rw [HF.out, hN]; dsimp only; rw [if_neg (by have := hL.out; omega), hC.out])) | skip
  obtain ⟨⟨A1, a1, HV1, cv⟩, ⟨A2', a2, HV2, cf⟩, ⟨A3, a3, HV3, cc⟩, zb, hbl', hbg', hbne, cur, hbt⟩ := HRV.out.cage_cell HI0.out (by rw [← HI0.out]; exact HV0.out)
  have HVL := Lib.hid ((HI.out.1.cage _ (List.mem_of_getLast? (getLast_at HI0.out))).1)
  have HLIM := Lib.hid (HI.out.1.cage _ (List.mem_of_getLast? (getLast_at HI0.out)))
  have HBT := Lib.hid hbt
  have i0' : (0 : Int) ≤ (i : Int) := by omega
  have i1' : (i : Int) < (i : Int) + 1 := by omega
  have isub : IntKind.i64.wrap ((i : Int) + 1 - 1) = (i : Int) := by rw [show (i : Int) + 1 - 1 = (i : Int) by omega]; exact IntWalk.i64_in _ (by omega)
  clear hbt zb
  refine wp_region_make 14 ?_ 7 (.cells #[.slice none 0 0, .slice none 0 0, .slice none 0 0] 47) (by kernel_rfl) (by kernel_rfl) (by kernel_rfl) (fun d hd => by cases hd; exact ⟨_, rfl, rfl, rfl, fun A u => alloc_Cage A _ rfl u⟩) (fun pp => ?_) (fun pp qq => ?_)
  rotate_left
  · simp only [List.take_succ_cons, List.take_zero]
    repeat (go_big_quiet_step ((fail)))
    refine wpQuiet_nil ?_
    exact rfl
  simp only [List.drop_succ_cons, List.drop_zero]
  try simp only [Act.put, List.setIfInBounds_toArray, List.set_cons_succ, List.set_cons_zero]
  refine wpList_store_rowTo rfl 47 _ _ rfl rfl ((grow V1 pp).heap.size) #[.slice A1 (cageAt sc i).verts.length a1, .slice A2' (cageAt sc i).faces.length a2, .slice A3 (cageAt sc i).creases.length a3] rfl rfl 47 #[.slice none 0 0, .slice none 0 0, .slice none 0 0] (Blk.grow (Blk.new _ _ _ _ rfl) _) sizC rfl (by simp [Value.oneCell']) ?_
  go_upto_region 7 with fail
  refine wp_letter (fun U hUe => ?_)
  have hBU : Below V1.heap.size V1 U := by rw [hUe]; exact bel_setRow (bel_grow (bel_alloc (bel_grow (Below.refl _ _) _) _) _) (by simp [grow_size_le]) _
  obtain ⟨cB, hcB⟩ : ∃ x, x = (grow V1 pp).heap.size := ⟨_, rfl⟩
  have KB : Blk U cB 47 #[.slice A1 (cageAt sc i).verts.length a1, .slice A2' (cageAt sc i).faces.length a2, .slice A3 (cageAt sc i).creases.length a3] := by rw [hUe, hcB]; exact (Blk.grow (Blk.new _ _ _ _ rfl) _).setRow _
  rw [← hcB]
  have hcBl : V1.heap.size ≤ cB := by rw [hcB]; exact (pp.kept V1).size
  clear hUe hcB
  have hB1U : Below W.heap.size W U := bel_trans hbV.out hBU
  have HRU := Lib.hid (HRV.out.below hBU)
  have HIU := Lib.hid (HIV.out.below hBU)
  have uk : U.cell? ⟨b, off, none⟩ = some (.string ⟨(k).toArray⟩) := (hBU.cell (p := ⟨b, off, none⟩) hblV).trans tk
  have hblU : b < U.heap.size := Nat.lt_of_lt_of_le hblV hBU.size
  have k0 : U.cell? ⟨cB, 0, none⟩ = some (.slice A1 (cageAt sc i).verts.length a1) := KB.cell 0
  have k1 : U.cell? ⟨cB, 1, none⟩ = some (.slice A2' (cageAt sc i).faces.length a2) := KB.cell 1
  have k2 : U.cell? ⟨cB, 2, none⟩ = some (.slice A3 (cageAt sc i).creases.length a3) := KB.cell 2
  have kz0 := KB.frozen 0
  have kz1 := KB.frozen 1
  have kz2 := KB.frozen 2
  have hcU := KB.lt
  have HKB := Lib.hid KB
  have u23 : U.cell? ⟨g, 23, none⟩ = some (.slice (some ⟨bC, 0, none⟩) (i + 1) aC) := (hBU.cell (p := ⟨g, 23, none⟩) hVl).trans c23
  have hUl := HRU.out.lt
  have hbC := Lib.hid (Nat.lt_of_lt_of_le hbl' hcBl)
  have hbCU : bC < U.heap.size := Nat.lt_of_lt_of_le hbl' hBU.size
  have v64 : ((cageAt sc i).verts.length : Int) ≤ 64 := by have := HVL.out; omega
  have vw := wrap_pred HVL.out
  have hB1 := Lib.hid hB1U
  have HBU := Lib.hid hBU
  clear tk c23 cv cf cc hBU hB1U KB hVl hblV
  have HIV' := HIV
  clear HIV
  have HIV := HIU
  go_upto_region 19 with (first | (go_at_call 43; (with_reducible refine (dw_0_n _ _ n _ _ _ ns hL.out (by omega) (by omega) (HIV.out.below (by repeat (first | with_reducible exact Below.refl _ _ | with_reducible refine bel_then ?_ _ | with_reducible refine bel_grow ?_ _ | with_reducible refine bel_alloc ?_ _ | with_reducible refine bel_drew ?_ | with_reducible refine bel_set ?_ (by simp) _ | with_reducible refine bel_setRow ?_ (by first | omega | (simp; done)) _)))).mono ?_); rintro e _ ⟨⟨hw1, rfl⟩ | ⟨hw1, rfl⟩, x3, rfl⟩))
  all_goals first | (go_ret; first | exact readP_err 13 hgl (bel_trans hB1.out (by repeat (first | with_reducible exact Below.refl _ _ | with_reducible refine bel_then ?_ _ | with_reducible refine bel_grow ?_ _ | with_reducible refine bel_alloc ?_ _ | with_reducible refine bel_drew ?_ | with_reducible refine bel_set ?_ (by simp) _ | with_reducible refine bel_setRow ?_ (by first | omega | (simp; done)) _))) (by rw [HF.out, hN]; dsimp only; rw [if_neg (by have := hL.out; omega), getLast_at HI0.out]; dsimp only; rw [if_pos (by omega)]) | exact readP_err 11 hgl (bel_trans hB1.out (by repeat (first | with_reducible exact Below.refl _ _ | with_reducible refine bel_then ?_ _ | with_reducible refine bel_grow ?_ _ | with_reducible refine bel_alloc ?_ _ | with_reducible refine bel_drew ?_ | with_reducible refine bel_set ?_ (by simp) _ | with_reducible refine bel_setRow ?_ (by first | omega | (simp; done)) _))) (by rw [HF.out, hN]; dsimp only; rw [if_neg (by have := hL.out; omega), getLast_at HI0.out]; dsimp only; rw [if_neg (by omega), hL.out, if_neg (by rw [hw1]; simp)])) | skip
  have hl3 : ns.length = n := hL.out
  have HS := Lib.hid (show partF sc k ws = .ok { sc with cages := onLast (fun c => { c with faces := c.faces ++ [ns] }) sc.cages } by
    rw [HF.out, hN]; dsimp only; rw [if_neg (by omega), getLast_at HI0.out]; dsimp only; rw [if_neg (by omega), hl3, if_pos hw1])
  clear HF hw1 hN
  have HVC := Lib.hid (show val .cages = .slice (some ⟨bC, 0, none⟩) sc.cages.length aC by rw [← HI0.out]; exact HV0.out)
  refine wp_letter (fun V hVe => ?_)
  have hUV : Below U.heap.size U V := by rw [hVe]; (repeat (first | with_reducible exact Below.refl _ _ | with_reducible refine bel_then ?_ _ | with_reducible refine bel_grow ?_ _ | with_reducible refine bel_alloc ?_ _ | with_reducible refine bel_drew ?_ | with_reducible refine bel_set ?_ (by simp) _ | with_reducible refine bel_setRow ?_ (by first | omega | (simp; done)) _))
  clear hVe
  have hB1V : Below W.heap.size W V := bel_trans hB1.out hUV
  have HRV2 := Lib.hid (HRU.out.below hUV)
  have KBV := HKB.out.below hUV
  have HOV := Lib.hid (own_below hown.out (bel_trans HBU.out hUV))
  have k1 : V.cell? ⟨cB, 1, none⟩ = some (.slice A2' (cageAt sc i).faces.length a2) := KBV.cell 1
  have kz1 := KBV.frozen 1
  have hcV := KBV.lt
  have hVl := HRV2.out.lt
  have hblV : b < V.heap.size := Nat.lt_of_lt_of_le hblU hUV.size
  have ukV : V.cell? ⟨b, off, none⟩ = some (.string ⟨(k).toArray⟩) := (hUV.cell (p := ⟨b, off, none⟩) hblU).trans uk
  have OW : ∀ x, (grow V x).ownsRow g 48 1 (.slice A2' (cageAt sc i).faces.length a2) (cageAt sc i).faces.length ((List.range (cageAt sc i).faces.length).map fun j => val (.frow i j)) := by
    intro x; rw [← HV2.out]; exact (HRV2.out.grow x).own.row (.face i)
  have OWV := Lib.hid (show V.ownsRow g 48 1 (.slice A2' (cageAt sc i).faces.length a2) (cageAt sc i).faces.length ((List.range (cageAt sc i).faces.length).map fun j => val (.frow i j)) from by
    rw [← HV2.out]; exact HRV2.out.own.row (.face i))
  replace OW := Lib.hid OW
  replace hB1V := Lib.hid hB1V
  replace hUV := Lib.hid hUV
  replace KBV := Lib.hid KBV
  have f64 : (cageAt sc i).faces.length < 64 := by omega
  clear hown hp uk u23 k0 k2 kz0 kz2 hcU hUl hbCU hblU HIV HIV' hl3
  go_upto_region 20 with (at_builtin; go_loud (refine wpList_append_own_at _ rfl _ _ 44 rfl g 48 i0 _ 1 24 Tryd.underlying44 hi0 hz0 hz1 hz2 rfl (by decide) _ _ _ rfl (OWV.out.alloc _) ⟨_, 0, none⟩ 1 1 [Value.slice A2 n c2] rfl rfl (cell_new _ [Value.slice A2 n c2] _) (fun u hu => by simp at hu; rcases hu with rfl <;> rfl) (by unfold maxLen; omega) (by omega) (Nat.le_trans (Nat.le_of_lt hVl) (@Below.size V.heap.size V _ (by repeat (first | with_reducible exact Below.refl _ _ | with_reducible refine bel_then ?_ _ | with_reducible refine bel_grow ?_ _ | with_reducible refine bel_alloc ?_ _ | with_reducible refine bel_drew ?_ | with_reducible refine bel_set ?_ (by simp) _ | with_reducible refine bel_setRow ?_ (by first | omega | (simp; done)) _)))) ?_); intro v4 w4 hown4 hgr4 hnil4 hat4; clear hnil4; obtain ⟨A4, a4, rfl⟩ := own_form hown4; go_loud (obtain ⟨O4, R4⟩ := HR.out.faceP HI0.out HVC.out HV2.out (.slice A2 n c2) ns _ hgr4 hown4 hat4 (bel_trans hB1V.out (by repeat (first | with_reducible exact Below.refl _ _ | with_reducible refine bel_then ?_ _ | with_reducible refine bel_grow ?_ _ | with_reducible refine bel_alloc ?_ _ | with_reducible refine bel_drew ?_ | with_reducible refine bel_set ?_ (by simp) _ | with_reducible refine bel_setRow ?_ (by first | omega | (simp; done)) _))) (by rw [hL.out]; exact ro_of_own (own_below HOV.out (by repeat (first | with_reducible exact Below.refl _ _ | with_reducible refine bel_then ?_ _ | with_reducible refine bel_grow ?_ _ | with_reducible refine bel_alloc ?_ _ | with_reducible refine bel_drew ?_ | with_reducible refine bel_set ?_ (by simp) _ | with_reducible refine bel_setRow ?_ (by first | omega | (simp; done)) _)))); have hB4 := ((bel_trans hB1V.out (by repeat (first | with_reducible exact Below.refl _ _ | with_reducible refine bel_then ?_ _ | with_reducible refine bel_grow ?_ _ | with_reducible refine bel_alloc ?_ _ | with_reducible refine bel_drew ?_ | with_reducible refine bel_set ?_ (by simp) _ | with_reducible refine bel_setRow ?_ (by first | omega | (simp; done)) _))).mono (Nat.le_of_lt hgl)).trans (below_gb hgr4 (fun k e => (own_typed (OW.out More.none_) k e).1) (Nat.le_trans (Nat.le_of_lt hVl) (@Below.size V.heap.size V _ (by repeat (first | with_reducible exact Below.refl _ _ | with_reducible refine bel_then ?_ _ | with_reducible refine bel_grow ?_ _ | with_reducible refine bel_alloc ?_ _ | with_reducible refine bel_drew ?_ | with_reducible refine bel_set ?_ (by simp) _ | with_reducible refine bel_setRow ?_ (by first | omega | (simp; done)) _))))); have hcb4 : Blk w4 cB 47 #[.slice A1 (cageAt sc i).verts.length a1, .slice A2' (cageAt sc i).faces.length a2, .slice A3 (cageAt sc i).creases.length a3] := (hgr4.block cB (Nat.lt_of_lt_of_le hcV (@Below.size V.heap.size V _ (by repeat (first | with_reducible exact Below.refl _ _ | with_reducible refine bel_then ?_ _ | with_reducible refine bel_grow ?_ _ | with_reducible refine bel_alloc ?_ _ | with_reducible refine bel_drew ?_ | with_reducible refine bel_set ?_ (by simp) _ | with_reducible refine bel_setRow ?_ (by first | omega | (simp; done)) _)))) (fun e => blk_ne (OW.out More.none_) KBV.out (by decide) e.symm)).trans (KBV.out.below (by repeat (first | with_reducible exact Below.refl _ _ | with_reducible refine bel_then ?_ _ | with_reducible refine bel_grow ?_ _ | with_reducible refine bel_alloc ?_ _ | with_reducible refine bel_drew ?_ | with_reducible refine bel_set ?_ (by simp) _ | with_reducible refine bel_setRow ?_ (by first | omega | (simp; done)) _))); have c4 : w4.cell? ⟨cB, 1, none⟩ = some (.slice A2' (cageAt sc i).faces.length a2) := hcb4.cell 1; have z4 := hcb4.frozen 1; replace R4 := Lib.hid R4; replace hB4 := Lib.hid hB4; replace O4 := Lib.hid O4; replace hcb4 := Lib.hid hcb4; clear hgr4 hown4 hat4))
  refine wp_letter (fun Y hYe => ?_)
  have hYe' := Lib.hid hYe
  have GY : Below g W Y := by rw [hYe]; exact hB4.out.setCell (Nat.le_trans (Nat.le_of_lt hgl) (Nat.le_trans hbV.out.size hcBl)) _
  have yk : Y.cell? ⟨b, off, none⟩ = some (.string ⟨(k).toArray⟩) := (GY.cell (p := ⟨b, off, none⟩) hbg).trans hS
  have hbY : b < Y.heap.size := Nat.lt_of_lt_of_le hbl GY.size
  have hgC : cB ≠ g := fun e => by
    have h1 := HRV2.out.blk
    rw [← e] at h1
    have := h1.symm.trans KBV.out
    injection this with this
    injection this with _ q2
    revert q2; decide
  have KY : Blk Y cB 47 #[.slice A1 (cageAt sc i).verts.length a1, .slice A4 ((cageAt sc i).faces.length + 1) a4, .slice A3 (cageAt sc i).creases.length a3] := by rw [hYe]; exact hcb4.out.set 1 _
  have y0 : Y.cell? ⟨cB, 0, none⟩ = some (.slice A1 (cageAt sc i).verts.length a1) := KY.cell 0
  have y1 : Y.cell? ⟨cB, 1, none⟩ = some (.slice A4 ((cageAt sc i).faces.length + 1) a4) := KY.cell 1
  have y2 : Y.cell? ⟨cB, 2, none⟩ = some (.slice A3 (cageAt sc i).creases.length a3) := KY.cell 2
  have hcY := KY.lt
  have hbCcB : bC ≠ cB := fun e => by have := hbC.out; omega
  have hbCg : bC ≠ g := hbne
  have y23 : Y.cell? ⟨g, 23, none⟩ = some (.slice (some ⟨bC, 0, none⟩) (i + 1) aC) := by
    have h1 : (w4.setCell ⟨bC, i * 3 + 1, none⟩ (.slice A4 ((cageAt sc i).faces.length + 1) a4)).cell? ⟨g, 23, none⟩ = some _ := R4.out.blk.cell 23
    rw [World.cell?_setCell_far _ _ _ _ hbCg] at h1
    rw [hYe, World.cell?_setCell_far _ _ _ _ hgC, h1]
    show some (upd (upd val (.frow i (cageAt sc i).faces.length) (.slice A2 n c2)) (.face i) (.slice A4 ((cageAt sc i).faces.length + 1) a4) .cages) = _
    simp [upd, HV0.out]
  have hgY : g < Y.heap.size := Nat.lt_of_lt_of_le hgl GY.size
  clear hYe c4 z4
  go_upto_region 26 with fail
  obtain ⟨cur4, HC4, hc4⟩ := row_block O4.out (by have := HI0.out; omega)
  have x0 : cur4[i * 3]? = some (.slice A1 (cageAt sc i).verts.length a1) := by rw [hc4 _ (by have := HI0.out; omega), (cage_get HI0.out val).1, HV1.out]
  have x2 : cur4[i * 3 + 2]? = some (.slice A3 (cageAt sc i).creases.length a3) := by rw [hc4 _ (by have := HI0.out; omega), (cage_get HI0.out val).2.2, HV3.out]
  have hTh := Lib.hid (show ∀ x, (grow Y x).there bC (i * 3) 3 from fun x j hj => by
    have hbY : bC < Y.heap.size := by rw [hYe'.out]; simpa using HC4.lt
    have e1 : (grow Y x).cell? ⟨bC, i * 3 + j, none⟩ = cur4[i * 3 + j]? := ((x.kept Y).cell (p := ⟨bC, i * 3 + j, none⟩) hbY).trans (by rw [hYe'.out, World.cell?_setCell_far _ _ _ _ (Ne.symm hbCcB)]; exact HC4.cell _)
    refine ⟨by rw [e1, hc4 _ (by have := HI0.out; omega)]; rcases (by omega : j = 0 ∨ j = 1 ∨ j = 2) with rfl | rfl | rfl <;> simp [(cage_get HI0.out val).1, (cage_get HI0.out val).2.1, (cage_get HI0.out val).2.2], ?_⟩
    have KC : Blk Y bC 47 cur4 := by rw [hYe'.out]; exact HC4.far 1 _ (Ne.symm hbCcB)
    exact (KC.grow x).frozen _)
  have hEnd := Lib.hid (show ∀ x, RepV g ((grow Y x).setCells bC (i * 3) [.slice A1 (cageAt sc i).verts.length a1, .slice A4 ((cageAt sc i).faces.length + 1) a4, .slice A3 (cageAt sc i).creases.length a3]) g 61 { sc with cages := onLast (fun c => { c with faces := c.faces ++ [ns] }) sc.cages } (upd (upd val (.frow i (cageAt sc i).faces.length) (.slice A2 n c2)) (.face i) (.slice A4 ((cageAt sc i).faces.length + 1) a4)) from fun x => by
    obtain ⟨x', ex⟩ := setCells_grow Y x bC (i * 3) (.slice A1 (cageAt sc i).verts.length a1) (.slice A4 ((cageAt sc i).faces.length + 1) a4) (.slice A3 (cageAt sc i).creases.length a3) (by rw [hYe'.out]; simpa using HC4.lt)
    rw [ex, hYe'.out, setCells_back hbCcB HC4 (k := 1) (by decide) (by simpa using x0) (by simp) (by simpa using x2)]
    exact (R4.out.asideCell (hcb4.out.far _ _ hbCcB) (by
      show (upd (upd val (.frow i (cageAt sc i).faces.length) (.slice A2 n c2)) (.face i) (.slice A4 ((cageAt sc i).faces.length + 1) a4) .cages).ownBlock ≠ _
      simp [upd, HV0.out, Value.ownBlock, hbCcB]) 1 _).grow x')
  have hBel := Lib.hid (show ∀ x, Below g W ((grow Y x).setCells bC (i * 3) [.slice A1 (cageAt sc i).verts.length a1, .slice A4 ((cageAt sc i).faces.length + 1) a4, .slice A3 (cageAt sc i).creases.length a3]) from fun x => by
    have h1 : Below g W (grow Y x) := GY.trans ((x.kept Y).mono (Nat.le_of_lt hgY))
    exact ((h1.setCell hbg' _).setCell hbg' _).setCell hbg' _)
  have hsubY := isub
  clear hc4 x0 x2 HC4 hYe' R4 O4 hcb4 hB4 GY KY
  refine wp_region_tail 14 ?_ (by kernel_rfl) (by kernel_rfl) (by kernel_rfl) (fun x => ?_) (fun x => ?_)
  rotate_left
  · simp only [List.take_succ_cons, List.take_zero]
    repeat (go_big_quiet_step ((fail)))
    refine wpQuiet_nil ?_
    exact rfl
  simp only [List.drop_succ_cons, List.drop_zero]
  try simp only [Act.put, List.setIfInBounds_toArray, List.set_cons_succ, List.set_cons_zero]
  go_wp2_with (refine wpList_store_mid rfl 47 _ _ rfl bC (i * 3) #[.slice A1 (cageAt sc i).verts.length a1, .slice A4 ((cageAt sc i).faces.length + 1) a4, .slice A3 (cageAt sc i).creases.length a3] rfl rfl (hTh.out _) sizC (by simp [Value.oneCell']) ?_)
  go_ret
  exact readP_ok HS.out (hBel.out _) (hEnd.out _)

end Go.Proofs.YtehmlofhiffanaaDoor
