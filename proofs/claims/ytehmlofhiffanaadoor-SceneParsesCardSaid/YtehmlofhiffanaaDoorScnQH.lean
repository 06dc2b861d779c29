/- The program's own scene: a text is read. -/
import Derived.Test.YtehmlofhiffanaaDoorScnQG
import Derived.Test.YtehmlofhiffanaaDoorScnF
import Derived.Test.YtehmlofhiffanaaDoorLexP6
import Derived.Deep.RegionHeld3
namespace Go.Proofs.YtehmlofhiffanaaDoor
open Go.RowKit
set_option linter.unusedVariables false
set_option linter.unusedSimpArgs false
set_option linter.unnecessarySimpa false

def scZ : Array Value := #[.int .i64 0, .int .i64 0, .int .i64 0, .int .i64 0, .int .i64 0, .int .i64 0, .int .i64 0, .int .i64 0, .int .i64 0, .int .i64 0, .int .i64 0, .int .i64 0, .int .i64 0, .int .i64 0, .int .i64 0, .int .i64 0, .int .i64 0, .int .i64 0, .int .i64 0, .slice none 0 0, .slice none 0 0, .slice none 0 0, .slice none 0 0, .slice none 0 0]
/-- A scene's value. -/
def sceneV (sc : Scn) (val : Key → Value) : Array Value := #[.int .i64 ((camN sc).getD 0 0), .int .i64 ((camN sc).getD 1 0), .int .i64 ((camN sc).getD 2 0), .int .i64 ((camN sc).getD 3 0), .int .i64 ((camN sc).getD 4 0), .int .i64 ((camN sc).getD 5 0), .int .i64 ((camN sc).getD 6 0), .int .i64 ((camN sc).getD 7 0), .int .i64 ((camN sc).getD 8 0), .int .i64 ((camN sc).getD 9 0), .int .i64 ((camN sc).getD 10 0), .int .i64 ((camN sc).getD 11 0), .int .i64 ((camN sc).getD 12 0), .int .i64 ((camN sc).getD 13 0), .int .i64 ((camN sc).getD 14 0), .int .i64 ((camN sc).getD 15 0), .int .i64 ((skyN sc).getD 0 0), .int .i64 ((skyN sc).getD 1 0), .int .i64 ((skyN sc).getD 2 0), val .lights, val .mats, val .texs, val .skins, val .cages]
def parsePost (w : World) (l : List UInt8) (e : Ending) (w' : World) : Prop := Below w.heap.size w w' ∧ match sceneT l with
  | .error (n, k) => e = .returned (.tuple #[.agg scZ, .int .i64 (n : Int), .int .i64 (k : Int)])
  | .ok sc => ∃ g val, e = .returned (.tuple #[.agg (sceneV sc val), .int .i64 0, .int .i64 0]) ∧ w.heap.size ≤ g ∧ RepV g w' g 57 sc val
theorem rows0 (k : Key) : (rowsOf scn0 (fun _ => vNil) k).v = vNil := by cases k <;> rfl
theorem repV_new (W : World) : RepV W.heap.size (W.alloc (.cells #[.int .i64 0, .int .i64 0, .int .i64 0, .int .i64 0, .int .i64 0, .int .i64 0, .int .i64 0, .int .i64 0, .int .i64 0, .int .i64 0, .int .i64 0, .int .i64 0, .int .i64 0, .int .i64 0, .int .i64 0, .int .i64 0, .int .i64 0, .int .i64 0, .int .i64 0, .slice none 0 0, .slice none 0 0, .slice none 0 0, .slice none 0 0, .slice none 0 0, .bool false, .bool false] 57)) W.heap.size 57 scn0 (fun _ => vNil) := by
  refine ⟨Blk.new _ _ _ _ rfl, ⟨fun k => ?_, fun j k h => .inl (by rw [rows0]; rfl), fun k => by rw [rows0]; simp [vNil, Value.ownBlock]⟩, fun _ _ => rfl, fun _ _ => rfl, fun _ _ => rfl, fun _ _ => rfl, fun _ _ _ => rfl, Nat.le_refl _⟩
  cases k <;> simp only [rowsOf, Rw.own_rw, Rw.own_ro] <;> (refine ⟨?_, .inl ⟨rfl, ?_⟩⟩ <;> simp [scn0, texSS, cageSS, texAt, cageAt, i64s, flat3])
theorem SFW_of_own {W : World} {base : Nat} {b n c : Nat} {l : List Wd} (h : W.ownsRow base 9 1 (.slice (some ⟨b, 0, none⟩) n c) n (strs l)) (hn : l.length = n) : SFW W (some ⟨b, 0, none⟩) l := fun h0 => by
  refine ⟨b, 0, rfl, (h.lt b rfl).2, fun i hi => ?_⟩
  rw [Nat.zero_add, h.cellAt i (by omega), strs_get l i hi]
  simp [List.getD, hi]
theorem own_cap {W : World} {base : Nat} {T : TypeId} {n : Nat} {v : Value} {xs : List Value} (h : W.ownsRow base T 1 v n xs) (hn : 0 < n) : ∃ b c, v = .slice (some ⟨b, 0, none⟩) n c ∧ n ≤ c ∧ b < W.heap.size := by
  rcases h.2 with ⟨_, q⟩ | ⟨b, c, cur, q1, q2, q3, q4, _⟩
  · omega
  · exact ⟨b, c, q1, q4, (Array.getElem?_eq_some_iff.1 q3).1⟩
theorem runS_snoc (sc : Scn) (l : List (Nat × List Wd)) (q : Nat × List Wd) : runS sc (l ++ [q]) = match runS sc l with | .error e => .error e | .ok sc' => (match lineF sc' q.2 with | .error e => .error (q.1, e) | .ok sc'' => .ok sc'') := by
  rw [runS_app]
  cases runS sc l with
  | error e => rfl
  | ok sc' => simp only [runS]; cases lineF sc' q.2 <;> rfl
theorem runS_stop {sc sc' : Scn} {l m : List (Nat × List Wd)} {q : Nat × List Wd} {k : Nat} (h : runS sc l = .ok sc') (he : lineF sc' q.2 = .error k) : runS sc (l ++ q :: m) = .error (q.1, k) := by
  rw [runS_app, h]
  simp only [runS, he]
theorem lines_or {w : World} {P : List (List UInt8)} {e : Ending} {w' : World} (h : linesPost w P e w') : Below w.heap.size w w' ∧ ((∃ n : Nat, linesP 1 [] P = .error n ∧ e = .returned (.tuple #[.slice none 0 0, .int .i64 (n : Int), .int .i64 10])) ∨ (∃ A c ls, linesP 1 [] P = .ok (outOf ls) ∧ e = .returned (.tuple #[.slice A ls.length c, .int .i64 0, .int .i64 0]) ∧ LNS w' w.heap.size (.slice A ls.length c) ls)) := by
  refine ⟨h.1, ?_⟩
  obtain ⟨_, h⟩ := h
  cases q : linesP 1 [] P with
  | error n => rw [q] at h; exact .inl ⟨n, rfl, h⟩
  | ok o =>
    rw [q] at h
    obtain ⟨v, ls, h1, h2, h3⟩ := h
    obtain ⟨A, c, rfl⟩ := own_form h2.1
    exact .inr ⟨A, c, ls, by rw [h3], h1, h2⟩

theorem alloc_Scene (a : Act) (o : Oper) (ho : o.op = .alloc 35) (w : World) : (execOp a.eval o).run Tryd.prog w = .ok (.value (.pointer (some ⟨w.heap.size, 0, none⟩))) (w.alloc (.cells scZ 35)) := by
  unfold execOp
  rw [ho]
  kernel_rfl
theorem alloc_reader (a : Act) (o : Oper) (ho : o.op = .alloc 57) (w : World) : (execOp a.eval o).run Tryd.prog w = .ok (.value (.pointer (some ⟨w.heap.size, 0, none⟩))) (w.alloc (.cells (rcells scn0 fun _ => vNil) 57)) := by
  unfold execOp
  rw [ho]
  kernel_rfl
theorem build_Scene (a : Act) (o : Oper) (ho : o.op = .build 35 #[]) (w : World) : (execOp a.eval o).run Tryd.prog w = .ok (.value (.agg scZ)) w := by
  unfold execOp
  rw [ho]
  kernel_rfl
theorem infoSc : (Tryd.prog.info? 35).map (·.size) = some 24 := by kernel_rfl
theorem scZ_size : scZ.size = 24 := rfl
theorem scZ_one : scZ.all (·.oneCell') = true := by kernel_rfl
theorem scV_size (sc : Scn) (val : Key → Value) : (sceneV sc val).size = 24 := rfl
theorem own_max {W : World} {base : Nat} {T : TypeId} {sz n : Nat} {v : Value} {xs : List Value} (h : W.ownsRow base T sz v n xs) : n ≤ 9223372036854775807 := by
  rcases h.2 with ⟨_, q⟩ | ⟨b, c, cur, q1, q2, q3, q4, q5, _⟩
  · omega
  · unfold maxLen at q5; omega
theorem repV_new2 (W : World) : RepV W.heap.size (W.alloc (.cells (rcells scn0 fun _ => vNil) 57)) W.heap.size 57 scn0 (fun _ => vNil) := repV_new W
theorem readP_or {g : Nat} {TR : TypeId} {W W' : World} {r : Except Nat Scn} {e : Ending} (h : readP g TR W r e W') : Below g W W' ∧ ((∃ k : Nat, r = .error k ∧ e = .returned (.int .i64 (k : Int)) ∧ Below W.heap.size W W') ∨ (∃ sc' val', r = .ok sc' ∧ e = .returned (.int .i64 0) ∧ RepV g W' g TR sc' val')) := by
  refine ⟨h.1, ?_⟩
  obtain ⟨_, h⟩ := h
  cases r with
  | error k => exact .inl ⟨k, rfl, h.1, h.2⟩
  | ok sc' => obtain ⟨h1, v, h2⟩ := h; exact .inr ⟨sc', v, rfl, h1, h2⟩
theorem wpAnyH_store {P : Program} {md : Region.Mode} {ops : Array Oper} {Q : Exit → Act → World → Prop} {S : World → Prop} {fuel i : Nat} {oi : Oper} {listed : Array Bool} {a : Act} {w w' : World} (hr : Region.ready md ops listed = [i]) (hi : ops[i]? = some oi) (hg : oi.guard = none) (hrun : (execOp a.eval oi).run P w = .ok .skip w') (hS : S w')
    (h : wpAnyH P md ops Q S fuel (listed.setIfInBounds i true) (a.put oi.dst undef) w') : wpAnyH P md ops Q S (fuel + 1) listed a w := by
  refine ⟨fun h0 => (by rw [hr] at h0; cases h0), fun j hj => ?_⟩
  rw [hr] at hj
  obtain rfl : j = i := by simpa using hj
  unfold wpOp
  simp only [hi]
  rw [if_pos (by simp [Region.wanted, hg])]
  left
  unfold Oper.wp
  rw [hrun]
  exact ⟨hS, h⟩
theorem RepV.range {base g : Nat} {W : World} {T : TypeId} {sc : Scn} {val : Key → Value} (h : RepV base W g T sc val) : W.rangeAt g 0 (sceneV sc val).toList := by
  intro j v hv
  rw [Nat.zero_add, h.blk.cell j]
  have e : rcells sc val = sceneV sc val ++ #[.bool sc.cam.isSome, .bool sc.sky.isSome] := rfl
  have hj : j < (sceneV sc val).size := by
    have := (List.getElem?_eq_some_iff.1 hv).1
    simpa using this
  rw [e, Array.getElem?_append_left hj]
  simpa using hv
theorem RepV.one {base g : Nat} {W : World} {T : TypeId} {sc : Scn} {val : Key → Value} (h : RepV base W g T sc val) : (sceneV sc val).toList.toArray.all (·.oneCell') = true := by
  obtain ⟨_, _, e1⟩ := own_form (show W.ownsRow base 63 6 (val .lights) _ _ from h.own.row .lights)
  obtain ⟨_, _, e2⟩ := own_form (show W.ownsRow base 65 9 (val .mats) _ _ from h.own.row .mats)
  obtain ⟨_, _, e3⟩ := own_form (show W.ownsRow base 67 4 (val .texs) _ _ from h.own.row .texs)
  obtain ⟨_, _, e4⟩ := own_form (show W.ownsRow base 42 6 (val .skins) _ _ from h.own.row .skins)
  obtain ⟨_, _, e5⟩ := own_form (show W.ownsRow base 47 3 (val .cages) _ _ from h.own.row .cages)
  unfold sceneV
  rw [e1, e2, e3, e4, e5]
  simp [Value.oneCell']
/-- The answer's variable is stored whole. -/
theorem RepV.asideRow {base g : Nat} {W : World} {sc : Scn} {val : Key → Value} (h : RepV base W g 57 sc val) {b : Nat} {cs cs' : Array Value} (hb : Blk W b 35 cs) : RepV base (W.setRow b cs') g 57 sc val := by
  have hty : ∀ (x : Option Nat) (T : TypeId), (∀ k, x = some k → ∃ cur, W.heap[k]? = some (.cells cur T (0, 0))) → T ≠ 35 → x ≠ some b := fun x T hx hT e => by
    obtain ⟨cur, q⟩ := hx b e
    have := q.symm.trans hb
    injection this with this
    injection this with _ q2
    exact hT q2
  have own := fun (_ : Nat) (T : TypeId) (sz n : Nat) (v : Value) (xs : List Value) (h : W.ownsRow base T sz v n xs) (hT : T ≠ 35) => hty v.ownBlock T (fun k hk => (own_typed h k hk).2) hT
  have ro := fun (T : TypeId) (n : Nat) (v : Value) (xs : List Value) (h : roRow W base T v n xs) (hT : T ≠ 35) => hty v.ownBlock T (fun k hk => by
    rcases h.2 with ⟨q, _⟩ | ⟨b, off, cap, cur, q, _, hg, _⟩
    · rw [q] at hk; cases hk
    · rw [q] at hk; cases hk; exact ⟨cur, hg⟩) hT
  have hk : ∀ k, (rowsOf sc val k).v.ownBlock ≠ some b := by
    intro k
    have hr := h.own.row k
    cases k with
    | tex i => exact ro _ _ _ _ hr (by simp [rowsOf])
    | frow i j => exact ro _ _ _ _ hr (by simp [rowsOf])
    | lights => exact own 0 _ _ _ _ _ hr (by simp [rowsOf])
    | mats => exact own 0 _ _ _ _ _ hr (by simp [rowsOf])
    | texs => exact own 0 _ _ _ _ _ hr (by simp [rowsOf])
    | skins => exact own 0 _ _ _ _ _ hr (by simp [rowsOf])
    | cages => exact own 0 _ _ _ _ _ hr (by simp [rowsOf])
    | vert i => exact own 0 _ _ _ _ _ hr (by simp [rowsOf])
    | face i => exact own 0 _ _ _ _ _ hr (by simp [rowsOf])
    | crease i => exact own 0 _ _ _ _ _ hr (by simp [rowsOf])
  have hne : b ≠ g := fun e => by
    subst e
    have := h.blk.symm.trans hb
    injection this with this
    injection this with _ q2
    revert q2; decide
  have hgr : W.grownBy (W.setRow b cs') (some b) := ⟨rfl, rfl, rfl, by simp, fun j _ hj => setRow_other W b j cs' (fun e => hj (by rw [e]))⟩
  exact ⟨h.blk.farRow cs' hne, ⟨fun k => (h.own.row k).kept hgr (.inr (hk k)), h.own.apart, h.own.off⟩, h.nilT, h.nilV, h.nilF, h.nilC, h.nilR, h.base_le⟩
/-- The answer's own variable is read. -/
theorem res_scene (W : World) (b : Nat) (cs : Array Value) (n k : Int) (tmps : Array Value) (h : Blk W b 35 cs) (hs : cs.size = 24) (h2 : tmps[2]? = some (.pointer (some ⟨b, 0, none⟩))) (h3 : tmps[3]? = some (.int .i64 n)) (h4 : tmps[4]? = some (.int .i64 k)) :
    (results Tryd.f8 tmps).run Tryd.prog W = .ok (.tuple #[.agg cs, .int .i64 n, .int .i64 k]) W := by
  have hl := run_loadVar_row (P := Tryd.prog) W b 35 35 cs (0, 0) _ h Tryd.underlying35 rfl (by rw [hs]; exact infoSc)
  have ha : Sem.run Tryd.prog (asAddr (Value.pointer (some ⟨b, 0, none⟩))) W = .ok ⟨b, 0, none⟩ W := rfl
  simp [results, Tryd.results8, h2, h3, h4, hl, ha]

end Go.Proofs.YtehmlofhiffanaaDoor
