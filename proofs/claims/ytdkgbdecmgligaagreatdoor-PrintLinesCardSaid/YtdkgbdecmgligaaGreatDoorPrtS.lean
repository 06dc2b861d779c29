/- The program's comparisons: two scenes. -/
import Derived.Test.YtdkgbdecmgligaaGreatDoorMPrtK
namespace Go.Proofs.YtdkgbdecmgligaaGreatDoor
open Go.RowKit
set_option linter.unusedVariables false
set_option linter.unusedSimpArgs false
set_option linter.unnecessarySimpa false
set_option maxHeartbeats 1000000 in
theorem eql_cam (a : Act) (o : Oper) (w : World) (ho : o.op = .binOp .eql 25 (.tmp 10) (.tmp 12) 25) (a0 a1 a2 a3 a4 a5 a6 a7 a8 a9 a10 a11 a12 a13 a14 a15 b0 b1 b2 b3 b4 b5 b6 b7 b8 b9 b10 b11 b12 b13 b14 b15 : Int) (b : Bool) (hb : b = true ↔ [a0, a1, a2, a3, a4, a5, a6, a7, a8, a9, a10, a11, a12, a13, a14, a15] = [b0, b1, b2, b3, b4, b5, b6, b7, b8, b9, b10, b11, b12, b13, b14, b15]) (x y : Value) (ex : x = .agg #[.int .i64 a0, .int .i64 a1, .int .i64 a2, .int .i64 a3, .int .i64 a4, .int .i64 a5, .int .i64 a6, .int .i64 a7, .int .i64 a8, .int .i64 a9, .int .i64 a10, .int .i64 a11, .int .i64 a12, .int .i64 a13, .int .i64 a14, .int .i64 a15]) (ey : y = .agg #[.int .i64 b0, .int .i64 b1, .int .i64 b2, .int .i64 b3, .int .i64 b4, .int .i64 b5, .int .i64 b6, .int .i64 b7, .int .i64 b8, .int .i64 b9, .int .i64 b10, .int .i64 b11, .int .i64 b12, .int .i64 b13, .int .i64 b14, .int .i64 b15]) (hx : a.eval (.tmp 10) = x) (hy : a.eval (.tmp 12) = y) : (execOp a.eval o).run Tryz.prog w = .ok (.value (.bool b)) w := by
  unfold execOp
  rw [ho]
  simp only [hx, hy]
  subst ex ey
  simp [go_sem]
  cases b
  · have h : ¬ ([a0, a1, a2, a3, a4, a5, a6, a7, a8, a9, a10, a11, a12, a13, a14, a15] = [b0, b1, b2, b3, b4, b5, b6, b7, b8, b9, b10, b11, b12, b13, b14, b15]) := fun h => by have := hb.2 h; cases this
    clear hx hy hb
    refine ite_skip fun q0 => ?_; refine ite_skip fun q1 => ?_; refine ite_skip fun q2 => ?_; refine ite_skip fun q3 => ?_; refine ite_skip fun q4 => ?_; refine ite_skip fun q5 => ?_; refine ite_skip fun q6 => ?_; refine ite_skip fun q7 => ?_; refine ite_skip fun q8 => ?_; refine ite_skip fun q9 => ?_; refine ite_skip fun q10 => ?_; refine ite_skip fun q11 => ?_; refine ite_skip fun q12 => ?_; refine ite_skip fun q13 => ?_; refine ite_skip fun q14 => ?_; refine ite_skip fun q15 => ?_
    exact absurd (by rw [q0, q1, q2, q3, q4, q5, q6, q7, q8, q9, q10, q11, q12, q13, q14, q15]) h
  · have h := hb.1 rfl
    clear hx hy hb
    simp only [List.cons.injEq, and_true] at h
    obtain ⟨rfl, rfl, rfl, rfl, rfl, rfl, rfl, rfl, rfl, rfl, rfl, rfl, rfl, rfl, rfl, rfl⟩ := h
    simp
theorem Tells.ask {P : Program} {f : FuncId} {args : Array Value} {W : World} {p : Prop} (h : Tells P f args W p) : Calls P f args W fun e w' => ∃ b : Bool, e = .returned (.bool b) ∧ (b = true ↔ p) ∧ Below W.heap.size W w' := h
theorem at_ldCam {P : Program} {ops : Array Oper} {rest : List Oper} {d : Option Tmp} {x : Operand} {ty : TypeId} {ps : String} {af : Array Edge} {a : Act} {w : World} {Q : Exit → Act → World → Prop} (h : wpList P ops Q ({ dst := d, op := .load 25 x, type := ty, pos := ps, after := af, guard := none } :: rest) a w) : wpList P ops Q ({ dst := d, op := .load 25 x, type := ty, pos := ps, after := af, guard := none } :: rest) a w := h
theorem at_eqCam {P : Program} {ops : Array Oper} {rest : List Oper} {d : Option Tmp} {x y : Operand} {ty : TypeId} {ps : String} {af : Array Edge} {a : Act} {w : World} {Q : Exit → Act → World → Prop} (h : wpList P ops Q ({ dst := d, op := .binOp .eql 25 x y 25, type := ty, pos := ps, after := af, guard := none } :: rest) a w) : wpList P ops Q ({ dst := d, op := .binOp .eql 25 x y 25, type := ty, pos := ps, after := af, guard := none } :: rest) a w := h
theorem wpList_load_midTo {P : Program} {ops : Array Oper} {rest : List Oper} {op : Oper} {a : Act} {w : World} {Q : Exit → Act → World → Prop} (hgd : op.guard = none) (ty : TypeId) (x : Operand) (ho : op.op = .load ty x)
    (b o : Nat) (hx : a.eval x = .pointer (some ⟨b, o, none⟩)) (cs : List Value) (d : TypeDesc) (hc : w.rangeAt b o cs)
    (hu : P.underlying ty = some d) (hd : d.isRow = true) (hi : (P.info? ty).map (·.size) = some cs.length) (v : Value) (hv : v = .agg cs.toArray)
    (h : wpList P ops Q rest (a.put op.dst v) w) : wpList P ops Q (op :: rest) a w := by
  subst hv
  exact wpList_load_mid hgd ty x ho b o hx cs d hc hu hd hi h
theorem infoCo3 : (Tryz.prog.info? 27).map (·.size) = some 3 := by kernel_rfl
theorem eql_sky (a : Act) (o : Oper) (w : World) (ho : o.op = .binOp .eql 27 (.tmp 16) (.tmp 18) 27) (s0 s1 s2 t0 t1 t2 : Int) (b : Bool) (hb : b = true ↔ [s0, s1, s2] = [t0, t1, t2]) (hx : a.eval (.tmp 16) = .agg #[.int .i64 s0, .int .i64 s1, .int .i64 s2]) (hy : a.eval (.tmp 18) = .agg #[.int .i64 t0, .int .i64 t1, .int .i64 t2]) : (execOp a.eval o).run Tryz.prog w = .ok (.value (.bool b)) w := by
  unfold execOp
  rw [ho]
  simp only [hx, hy]
  simp [go_sem]
  cases b
  · have h : ¬ ([s0, s1, s2] = [t0, t1, t2]) := fun h => by have := hb.2 h; cases this
    clear hx hy hb
    refine ite_skip fun q0 => ?_; refine ite_skip fun q1 => ?_; refine ite_skip fun q2 => ?_
    exact absurd (by rw [q0, q1, q2]) h
  · have h := hb.1 rfl
    clear hx hy hb
    simp only [List.cons.injEq, and_true] at h
    obtain ⟨rfl, rfl, rfl⟩ := h
    simp
theorem infoFn1 : (Tryz.prog.info? 77).map (·.size) = some 1 := by kernel_rfl
theorem setRow_new2 (W : World) (c c' : Array Value) (t : TypeId) (o1 o2 : Obj) : (((W.alloc o1).alloc o2).alloc (.cells c t)).setRow (W.heap.size + 2) c' = ((W.alloc o1).alloc o2).alloc (.cells c' t) := by
  have h : W.heap.size + 2 = ((W.alloc o1).alloc o2).heap.size := by simp
  rw [h, World.setRow_alloc_new]
set_option maxRecDepth 100000 in
set_option maxHeartbeats 8000000 in
theorem same_w {base cL dL cM dM cT dT cS dS cC dC : Nat} {aL bL aM bM aT bT aS bS aC bC : Option Addr} {W : World} (gs hs : GS) (hw : WfG gs) (hv : WfG hs) (hbs : base ≤ W.heap.size) (hb : SB base W gs aL aM aT aS aC) (hd : SB base W hs bL bM bT bS bC) (a0 a1 a2 a3 a4 a5 a6 a7 a8 a9 a10 a11 a12 a13 a14 a15 s0 s1 s2 b0 b1 b2 b3 b4 b5 b6 b7 b8 b9 b10 b11 b12 b13 b14 b15 t0 t1 t2 : Int) (hca : gs.cam = [a0, a1, a2, a3, a4, a5, a6, a7, a8, a9, a10, a11, a12, a13, a14, a15]) (hsk : gs.sky = [s0, s1, s2]) (hcb : hs.cam = [b0, b1, b2, b3, b4, b5, b6, b7, b8, b9, b10, b11, b12, b13, b14, b15]) (hsb : hs.sky = [t0, t1, t2]) :
    Tells Tryz.prog 16 #[.agg #[.int .i64 a0, .int .i64 a1, .int .i64 a2, .int .i64 a3, .int .i64 a4, .int .i64 a5, .int .i64 a6, .int .i64 a7, .int .i64 a8, .int .i64 a9, .int .i64 a10, .int .i64 a11, .int .i64 a12, .int .i64 a13, .int .i64 a14, .int .i64 a15, .int .i64 s0, .int .i64 s1, .int .i64 s2, .slice aL gs.lights.length cL, .slice aM gs.mats.length cM, .slice aT gs.texs.length cT, .slice aS gs.skins.length cS, .slice aC gs.cages.length cC], .agg #[.int .i64 b0, .int .i64 b1, .int .i64 b2, .int .i64 b3, .int .i64 b4, .int .i64 b5, .int .i64 b6, .int .i64 b7, .int .i64 b8, .int .i64 b9, .int .i64 b10, .int .i64 b11, .int .i64 b12, .int .i64 b13, .int .i64 b14, .int .i64 b15, .int .i64 t0, .int .i64 t1, .int .i64 t2, .slice bL hs.lights.length dL, .slice bM hs.mats.length dM, .slice bT hs.texs.length dT, .slice bS hs.skins.length dS, .slice bC hs.cages.length dC]] W (gs = hs) := by
  have hmf : ∀ (fn : Fn) (first cap : Array Value) (w : World), (Instr.makeFunc fn first cap).run Tryz.prog w = .ok (.func fn first cap) w := fun _ _ _ _ => rfl
  have hE : gs = hs ↔ [a0, a1, a2, a3, a4, a5, a6, a7, a8, a9, a10, a11, a12, a13, a14, a15] = [b0, b1, b2, b3, b4, b5, b6, b7, b8, b9, b10, b11, b12, b13, b14, b15] ∧ [s0, s1, s2] = [t0, t1, t2] ∧ gs.lights = hs.lights ∧ gs.texs = hs.texs ∧ gs.mats = hs.mats ∧ gs.skins = hs.skins ∧ gs.cages = hs.cages := by
    rw [← hca, ← hsk, ← hcb, ← hsb]
    cases gs; cases hs
    simp only [GS.mk.injEq]
    constructor
    · rintro ⟨h1, h2, h3, h4, h5, h6, h7⟩; exact ⟨h1, h2, h3, h5, h4, h6, h7⟩
    · rintro ⟨h1, h2, h3, h5, h4, h6, h7⟩; exact ⟨h1, h2, h3, h4, h5, h6, h7⟩
  obtain ⟨nL, hnL⟩ : ∃ n, gs.lights.length = n := ⟨_, rfl⟩
  obtain ⟨mL, hmL⟩ : ∃ n, hs.lights.length = n := ⟨_, rfl⟩
  obtain ⟨nM, hnM⟩ : ∃ n, gs.mats.length = n := ⟨_, rfl⟩
  obtain ⟨mM, hmM⟩ : ∃ n, hs.mats.length = n := ⟨_, rfl⟩
  obtain ⟨nT, hnT⟩ : ∃ n, gs.texs.length = n := ⟨_, rfl⟩
  obtain ⟨mT, hmT⟩ : ∃ n, hs.texs.length = n := ⟨_, rfl⟩
  obtain ⟨nS, hnS⟩ : ∃ n, gs.skins.length = n := ⟨_, rfl⟩
  obtain ⟨mS, hmS⟩ : ∃ n, hs.skins.length = n := ⟨_, rfl⟩
  obtain ⟨nC, hnC⟩ : ∃ n, gs.cages.length = n := ⟨_, rfl⟩
  obtain ⟨mC, hmC⟩ : ∃ n, hs.cages.length = n := ⟨_, rfl⟩
  rw [hnL, hmL, hnM, hmM, hnT, hmT, hnS, hmS, hnC, hmC]
  have hb2 : Below W.heap.size W (((W.alloc (.cells #[.int .i64 a0, .int .i64 a1, .int .i64 a2, .int .i64 a3, .int .i64 a4, .int .i64 a5, .int .i64 a6, .int .i64 a7, .int .i64 a8, .int .i64 a9, .int .i64 a10, .int .i64 a11, .int .i64 a12, .int .i64 a13, .int .i64 a14, .int .i64 a15, .int .i64 s0, .int .i64 s1, .int .i64 s2, .slice aL nL cL, .slice aM nM cM, .slice aT nT cT, .slice aS nS cS, .slice aC nC cC] 34)).alloc (.cells #[.int .i64 b0, .int .i64 b1, .int .i64 b2, .int .i64 b3, .int .i64 b4, .int .i64 b5, .int .i64 b6, .int .i64 b7, .int .i64 b8, .int .i64 b9, .int .i64 b10, .int .i64 b11, .int .i64 b12, .int .i64 b13, .int .i64 b14, .int .i64 b15, .int .i64 t0, .int .i64 t1, .int .i64 t2, .slice bL mL dL, .slice bM mM dM, .slice bT mT dT, .slice bS mS dS, .slice bC mC dC] 34)).alloc (.cells #[.func (Fn.func 35) #[] #[]] 77)) := bel_alloc (bel_alloc (bel_alloc (Below.refl _ _) _) _) _
  have KA : Blk (((W.alloc (.cells #[.int .i64 a0, .int .i64 a1, .int .i64 a2, .int .i64 a3, .int .i64 a4, .int .i64 a5, .int .i64 a6, .int .i64 a7, .int .i64 a8, .int .i64 a9, .int .i64 a10, .int .i64 a11, .int .i64 a12, .int .i64 a13, .int .i64 a14, .int .i64 a15, .int .i64 s0, .int .i64 s1, .int .i64 s2, .slice aL nL cL, .slice aM nM cM, .slice aT nT cT, .slice aS nS cS, .slice aC nC cC] 34)).alloc (.cells #[.int .i64 b0, .int .i64 b1, .int .i64 b2, .int .i64 b3, .int .i64 b4, .int .i64 b5, .int .i64 b6, .int .i64 b7, .int .i64 b8, .int .i64 b9, .int .i64 b10, .int .i64 b11, .int .i64 b12, .int .i64 b13, .int .i64 b14, .int .i64 b15, .int .i64 t0, .int .i64 t1, .int .i64 t2, .slice bL mL dL, .slice bM mM dM, .slice bT mT dT, .slice bS mS dS, .slice bC mC dC] 34)).alloc (.cells #[.func (Fn.func 35) #[] #[]] 77)) W.heap.size 34 #[.int .i64 a0, .int .i64 a1, .int .i64 a2, .int .i64 a3, .int .i64 a4, .int .i64 a5, .int .i64 a6, .int .i64 a7, .int .i64 a8, .int .i64 a9, .int .i64 a10, .int .i64 a11, .int .i64 a12, .int .i64 a13, .int .i64 a14, .int .i64 a15, .int .i64 s0, .int .i64 s1, .int .i64 s2, .slice aL nL cL, .slice aM nM cM, .slice aT nT cT, .slice aS nS cS, .slice aC nC cC] := ((Blk.new _ _ _ _ rfl).alloc _).alloc _
  have KB : Blk (((W.alloc (.cells #[.int .i64 a0, .int .i64 a1, .int .i64 a2, .int .i64 a3, .int .i64 a4, .int .i64 a5, .int .i64 a6, .int .i64 a7, .int .i64 a8, .int .i64 a9, .int .i64 a10, .int .i64 a11, .int .i64 a12, .int .i64 a13, .int .i64 a14, .int .i64 a15, .int .i64 s0, .int .i64 s1, .int .i64 s2, .slice aL nL cL, .slice aM nM cM, .slice aT nT cT, .slice aS nS cS, .slice aC nC cC] 34)).alloc (.cells #[.int .i64 b0, .int .i64 b1, .int .i64 b2, .int .i64 b3, .int .i64 b4, .int .i64 b5, .int .i64 b6, .int .i64 b7, .int .i64 b8, .int .i64 b9, .int .i64 b10, .int .i64 b11, .int .i64 b12, .int .i64 b13, .int .i64 b14, .int .i64 b15, .int .i64 t0, .int .i64 t1, .int .i64 t2, .slice bL mL dL, .slice bM mM dM, .slice bT mT dT, .slice bS mS dS, .slice bC mC dC] 34)).alloc (.cells #[.func (Fn.func 35) #[] #[]] 77)) (W.heap.size + 1) 34 #[.int .i64 b0, .int .i64 b1, .int .i64 b2, .int .i64 b3, .int .i64 b4, .int .i64 b5, .int .i64 b6, .int .i64 b7, .int .i64 b8, .int .i64 b9, .int .i64 b10, .int .i64 b11, .int .i64 b12, .int .i64 b13, .int .i64 b14, .int .i64 b15, .int .i64 t0, .int .i64 t1, .int .i64 t2, .slice bL mL dL, .slice bM mM dM, .slice bT mT dT, .slice bS mS dS, .slice bC mC dC] := (Blk.new _ _ _ _ (by simp)).alloc _
  have KF : Blk (((W.alloc (.cells #[.int .i64 a0, .int .i64 a1, .int .i64 a2, .int .i64 a3, .int .i64 a4, .int .i64 a5, .int .i64 a6, .int .i64 a7, .int .i64 a8, .int .i64 a9, .int .i64 a10, .int .i64 a11, .int .i64 a12, .int .i64 a13, .int .i64 a14, .int .i64 a15, .int .i64 s0, .int .i64 s1, .int .i64 s2, .slice aL nL cL, .slice aM nM cM, .slice aT nT cT, .slice aS nS cS, .slice aC nC cC] 34)).alloc (.cells #[.int .i64 b0, .int .i64 b1, .int .i64 b2, .int .i64 b3, .int .i64 b4, .int .i64 b5, .int .i64 b6, .int .i64 b7, .int .i64 b8, .int .i64 b9, .int .i64 b10, .int .i64 b11, .int .i64 b12, .int .i64 b13, .int .i64 b14, .int .i64 b15, .int .i64 t0, .int .i64 t1, .int .i64 t2, .slice bL mL dL, .slice bM mM dM, .slice bT mT dT, .slice bS mS dS, .slice bC mC dC] 34)).alloc (.cells #[.func (Fn.func 35) #[] #[]] 77)) (W.heap.size + 2) 77 #[.func (Fn.func 35) #[] #[]] := Blk.new _ _ _ _ (by simp)
  have hA0 := hb.frb (FrB.of hbs hb2)
  have hB0 := hd.frb (FrB.of hbs hb2)
  have hbs1 : base ≤ (((W.alloc (.cells #[.int .i64 a0, .int .i64 a1, .int .i64 a2, .int .i64 a3, .int .i64 a4, .int .i64 a5, .int .i64 a6, .int .i64 a7, .int .i64 a8, .int .i64 a9, .int .i64 a10, .int .i64 a11, .int .i64 a12, .int .i64 a13, .int .i64 a14, .int .i64 a15, .int .i64 s0, .int .i64 s1, .int .i64 s2, .slice aL nL cL, .slice aM nM cM, .slice aT nT cT, .slice aS nS cS, .slice aC nC cC] 34)).alloc (.cells #[.int .i64 b0, .int .i64 b1, .int .i64 b2, .int .i64 b3, .int .i64 b4, .int .i64 b5, .int .i64 b6, .int .i64 b7, .int .i64 b8, .int .i64 b9, .int .i64 b10, .int .i64 b11, .int .i64 b12, .int .i64 b13, .int .i64 b14, .int .i64 b15, .int .i64 t0, .int .i64 t1, .int .i64 t2, .slice bL mL dL, .slice bM mM dM, .slice bT mT dT, .slice bS mS dS, .slice bC mC dC] 34)).alloc (.cells #[.func (Fn.func 35) #[] #[]] 77)).heap.size := Nat.le_trans hbs hb2.size
  clear hb hd
  unfold Tells
  go_enter Tryz.func16, Tryz.ntmps16
  go_upto_region 1 with fail
  go_upto_region 4 with (refine wpList_store_oneTo rfl 77 _ _ rfl rfl (W.heap.size + 2) (.func (Fn.func 35) #[] #[]) rfl rfl rfl 77 .nilFunc (Blk.new _ _ _ _ (by simp)) infoFn1 ?_; rw [setRow_new2])
  generalize hV : (((W.alloc (.cells #[.int .i64 a0, .int .i64 a1, .int .i64 a2, .int .i64 a3, .int .i64 a4, .int .i64 a5, .int .i64 a6, .int .i64 a7, .int .i64 a8, .int .i64 a9, .int .i64 a10, .int .i64 a11, .int .i64 a12, .int .i64 a13, .int .i64 a14, .int .i64 a15, .int .i64 s0, .int .i64 s1, .int .i64 s2, .slice aL nL cL, .slice aM nM cM, .slice aT nT cT, .slice aS nS cS, .slice aC nC cC] 34)).alloc (.cells #[.int .i64 b0, .int .i64 b1, .int .i64 b2, .int .i64 b3, .int .i64 b4, .int .i64 b5, .int .i64 b6, .int .i64 b7, .int .i64 b8, .int .i64 b9, .int .i64 b10, .int .i64 b11, .int .i64 b12, .int .i64 b13, .int .i64 b14, .int .i64 b15, .int .i64 t0, .int .i64 t1, .int .i64 t2, .slice bL mL dL, .slice bM mM dM, .slice bT mT dT, .slice bS mS dS, .slice bC mC dC] 34)).alloc (.cells #[.func (Fn.func 35) #[] #[]] 77)) = V at *
  clear hV
  obtain ⟨g1, hg1⟩ : ∃ g, g = W.heap.size := ⟨_, rfl⟩
  obtain ⟨g2, hg2⟩ : ∃ g, g = W.heap.size + 1 := ⟨_, rfl⟩
  obtain ⟨g3, hg3⟩ : ∃ g, g = W.heap.size + 2 := ⟨_, rfl⟩
  rw [← hg1] at KA
  rw [← hg2] at KB
  rw [← hg3] at KF
  try rw [← hg3]
  try rw [← hg2]
  try rw [← hg1]
  clear hg1 hg2 hg3
  replace hb2 := Lib.hid hb2
  have cell1 : ∀ V2 : World, Below V.heap.size V V2 → g1 < V2.heap.size ∧ g2 < V2.heap.size ∧ V2.cell? ⟨g1, 19, none⟩ = some (.slice aL nL cL) ∧ V2.cell? ⟨g2, 19, none⟩ = some (.slice bL mL dL) ∧ V2.cell? ⟨g1, 21, none⟩ = some (.slice aT nT cT) ∧ V2.cell? ⟨g2, 21, none⟩ = some (.slice bT mT dT) ∧ V2.cell? ⟨g1, 20, none⟩ = some (.slice aM nM cM) ∧ V2.cell? ⟨g2, 20, none⟩ = some (.slice bM mM dM) ∧ V2.cell? ⟨g1, 22, none⟩ = some (.slice aS nS cS) ∧ V2.cell? ⟨g2, 22, none⟩ = some (.slice bS mS dS) ∧ V2.cell? ⟨g1, 23, none⟩ = some (.slice aC nC cC) ∧ V2.cell? ⟨g2, 23, none⟩ = some (.slice bC mC dC) :=
    fun V2 h => ⟨(KA.below h).lt, (KB.below h).lt, (KA.below h).cell 19, (KB.below h).cell 19, (KA.below h).cell 21, (KB.below h).cell 21, (KA.below h).cell 20, (KB.below h).cell 20, (KA.below h).cell 22, (KB.below h).cell 22, (KA.below h).cell 23, (KB.below h).cell 23⟩
  obtain ⟨x1, x2, pL, qL, pT, qT, pM, qM, pS, qS, pC, qC⟩ := cell1 V (Below.refl _ _)
  have rA : V.rangeAt g1 0 [.int .i64 a0, .int .i64 a1, .int .i64 a2, .int .i64 a3, .int .i64 a4, .int .i64 a5, .int .i64 a6, .int .i64 a7, .int .i64 a8, .int .i64 a9, .int .i64 a10, .int .i64 a11, .int .i64 a12, .int .i64 a13, .int .i64 a14, .int .i64 a15] := rng_blk KA 0 _ (fun j v hv => by
    rw [Nat.zero_add]
    have hj := (List.getElem?_eq_some_iff.1 hv).1
    simp at hj
    rw [← hv]
    rcases (by omega : j = 0 ∨ j = 1 ∨ j = 2 ∨ j = 3 ∨ j = 4 ∨ j = 5 ∨ j = 6 ∨ j = 7 ∨ j = 8 ∨ j = 9 ∨ j = 10 ∨ j = 11 ∨ j = 12 ∨ j = 13 ∨ j = 14 ∨ j = 15) with rfl | rfl | rfl | rfl | rfl | rfl | rfl | rfl | rfl | rfl | rfl | rfl | rfl | rfl | rfl | rfl <;> rfl)
  have rB : V.rangeAt g2 0 [.int .i64 b0, .int .i64 b1, .int .i64 b2, .int .i64 b3, .int .i64 b4, .int .i64 b5, .int .i64 b6, .int .i64 b7, .int .i64 b8, .int .i64 b9, .int .i64 b10, .int .i64 b11, .int .i64 b12, .int .i64 b13, .int .i64 b14, .int .i64 b15] := rng_blk KB 0 _ (fun j v hv => by
    rw [Nat.zero_add]
    have hj := (List.getElem?_eq_some_iff.1 hv).1
    simp at hj
    rw [← hv]
    rcases (by omega : j = 0 ∨ j = 1 ∨ j = 2 ∨ j = 3 ∨ j = 4 ∨ j = 5 ∨ j = 6 ∨ j = 7 ∨ j = 8 ∨ j = 9 ∨ j = 10 ∨ j = 11 ∨ j = 12 ∨ j = 13 ∨ j = 14 ∨ j = 15) with rfl | rfl | rfl | rfl | rfl | rfl | rfl | rfl | rfl | rfl | rfl | rfl | rfl | rfl | rfl | rfl <;> rfl)
  have v0 : V.cell? ⟨g1, 16, none⟩ = some (.int .i64 s0) := KA.cell 16
  have v1 : V.cell? ⟨g1, 17, none⟩ = some (.int .i64 s1) := KA.cell 17
  have v2 : V.cell? ⟨g1, 18, none⟩ = some (.int .i64 s2) := KA.cell 18
  have w0 : V.cell? ⟨g2, 16, none⟩ = some (.int .i64 t0) := KB.cell 16
  have w1 : V.cell? ⟨g2, 17, none⟩ = some (.int .i64 t1) := KB.cell 17
  have w2 : V.cell? ⟨g2, 18, none⟩ = some (.int .i64 t2) := KB.cell 18
  have CL := Lib.hid (show Tells Tryz.prog 42 _ V (gs.lights = hs.lights) from eq_L (c := cL) (d := dL) gs.lights hs.lights hnL hmL (fun z hz => (hw.pl z hz).1) (fun z hz => (hv.pl z hz).1) (by have := hw.nl; omega) hA0.rl hB0.rl)
  have CT := Lib.hid (fun V2 (h : Below V.heap.size V V2) => eq_T (c := cT) (d := dT) gs.texs hs.texs hnT hmT (fun z hz => ⟨(hw.pt z hz).2.1, (hw.pt z hz).2.2.1⟩) (fun z hz => (hv.pt z hz).2.1) (by have := hw.nt; omega) (Nat.le_trans hbs1 h.size) (hA0.rt.frb (FrB.of hbs1 h)) (hB0.rt.frb (FrB.of hbs1 h)))
  have CM := Lib.hid (fun V2 (h : Below V.heap.size V V2) => (show Tells Tryz.prog 44 _ V2 (gs.mats = hs.mats) from eq_M (c := cM) (d := dM) gs.mats hs.mats hnM hmM (fun z hz => (hw.pm z hz).2.1) (fun z hz => (hv.pm z hz).2.1) (by have := hw.nm; omega) (hA0.rm.frb (FrB.of hbs1 h)) (hB0.rm.frb (FrB.of hbs1 h))))
  have CS := Lib.hid (fun V2 (h : Below V.heap.size V V2) => (show Tells Tryz.prog 45 _ V2 (gs.skins = hs.skins) from eq_S (c := cS) (d := dS) gs.skins hs.skins hnS hmS (fun z hz => (hw.ps z hz).2.1) (fun z hz => (hv.ps z hz).2.1) (by have := hw.ns; omega) (hA0.rs.frb (FrB.of hbs1 h)) (hB0.rs.frb (FrB.of hbs1 h))))
  have CC := Lib.hid (fun V2 (h : Below V.heap.size V V2) => eq_Cg (c := cC) (d := dC) gs.cages hs.cages hnC hmC (by have := hw.nc; omega) (Nat.le_trans hbs1 h.size) (hA0.rc.frb (FrB.of hbs1 h)) (hB0.rc.frb (FrB.of hbs1 h)) (KF.below h))
  clear hA0 hB0 KA KB KF hw hv hca hsk hcb hsb
  replace cell1 := Lib.hid cell1
  obtain ⟨VA, eA⟩ : ∃ v, v = Value.agg #[.int .i64 a0, .int .i64 a1, .int .i64 a2, .int .i64 a3, .int .i64 a4, .int .i64 a5, .int .i64 a6, .int .i64 a7, .int .i64 a8, .int .i64 a9, .int .i64 a10, .int .i64 a11, .int .i64 a12, .int .i64 a13, .int .i64 a14, .int .i64 a15] := ⟨_, rfl⟩
  obtain ⟨VB, eB⟩ : ∃ v, v = Value.agg #[.int .i64 b0, .int .i64 b1, .int .i64 b2, .int .i64 b3, .int .i64 b4, .int .i64 b5, .int .i64 b6, .int .i64 b7, .int .i64 b8, .int .i64 b9, .int .i64 b10, .int .i64 b11, .int .i64 b12, .int .i64 b13, .int .i64 b14, .int .i64 b15] := ⟨_, rfl⟩
  generalize Value.agg #[.int .i64 a0, .int .i64 a1, .int .i64 a2, .int .i64 a3, .int .i64 a4, .int .i64 a5, .int .i64 a6, .int .i64 a7, .int .i64 a8, .int .i64 a9, .int .i64 a10, .int .i64 a11, .int .i64 a12, .int .i64 a13, .int .i64 a14, .int .i64 a15, .int .i64 s0, .int .i64 s1, .int .i64 s2, .slice aL nL cL, .slice aM nM cM, .slice aT nT cT, .slice aS nS cS, .slice aC nC cC] = PA
  generalize Value.agg #[.int .i64 b0, .int .i64 b1, .int .i64 b2, .int .i64 b3, .int .i64 b4, .int .i64 b5, .int .i64 b6, .int .i64 b7, .int .i64 b8, .int .i64 b9, .int .i64 b10, .int .i64 b11, .int .i64 b12, .int .i64 b13, .int .i64 b14, .int .i64 b15, .int .i64 t0, .int .i64 t1, .int .i64 t2, .slice bL mL dL, .slice bM mM dM, .slice bT mT dT, .slice bS mS dS, .slice bC mC dC] = PB
  replace eA := Lib.hid eA
  replace eB := Lib.hid eB
  replace rA := Lib.hid rA
  replace rB := Lib.hid rB
  by_cases h0 : [a0, a1, a2, a3, a4, a5, a6, a7, a8, a9, a10, a11, a12, a13, a14, a15] = [b0, b1, b2, b3, b4, b5, b6, b7, b8, b9, b10, b11, b12, b13, b14, b15]
  · by_cases h1 : [s0, s1, s2] = [t0, t1, t2]
    · have h1' := h1
      simp only [List.cons.injEq, and_true] at h1'
      obtain ⟨rfl, rfl, rfl⟩ := h1'
      by_cases l0 : gs.lights = hs.lights
      · by_cases l1 : gs.texs = hs.texs
        · by_cases l2 : gs.mats = hs.mats
          · by_cases l3 : gs.skins = hs.skins
            · go_wp2_with (first | (with_reducible_and_instances refine at_ldCam ?_; refine wpList_load_midTo rfl 25 _ rfl g1 0 rfl [.int .i64 a0, .int .i64 a1, .int .i64 a2, .int .i64 a3, .int .i64 a4, .int .i64 a5, .int .i64 a6, .int .i64 a7, .int .i64 a8, .int .i64 a9, .int .i64 a10, .int .i64 a11, .int .i64 a12, .int .i64 a13, .int .i64 a14, .int .i64 a15] _ rA.out Tryz.underlying25 rfl infoCam16 VA eA.out ?_) | (with_reducible_and_instances refine at_ldCam ?_; refine wpList_load_midTo rfl 25 _ rfl g2 0 rfl [.int .i64 b0, .int .i64 b1, .int .i64 b2, .int .i64 b3, .int .i64 b4, .int .i64 b5, .int .i64 b6, .int .i64 b7, .int .i64 b8, .int .i64 b9, .int .i64 b10, .int .i64 b11, .int .i64 b12, .int .i64 b13, .int .i64 b14, .int .i64 b15] _ rB.out Tryz.underlying25 rfl infoCam16 VB eB.out ?_) | (with_reducible_and_instances refine at_eqCam ?_; refine wpList_val rfl _ _ (eql_cam _ _ _ rfl a0 a1 a2 a3 a4 a5 a6 a7 a8 a9 a10 a11 a12 a13 a14 a15 b0 b1 b2 b3 b4 b5 b6 b7 b8 b9 b10 b11 b12 b13 b14 b15 true ⟨fun _ => h0, fun _ => rfl⟩ VA VB eA.out eB.out rfl rfl) ?_) | (go_at_call 42; (with_reducible refine Calls.mono (CL.out.yes l0) ?_); rintro e V0 ⟨rfl, hC⟩; have hB1 := hC; clear hC; obtain ⟨x1_0, x2_0, pL_0, qL_0, pT_0, qT_0, pM_0, qM_0, pS_0, qS_0, pC_0, qC_0⟩ := cell1.out _ hB1) | (go_at_call 43; (with_reducible refine Calls.mono ((CT.out _ hB1).yes l1) ?_); rintro e V1 ⟨rfl, hC⟩; have hB2 := hB1.trans (hC.mono hB1.size); clear hC; obtain ⟨x1_1, x2_1, pL_1, qL_1, pT_1, qT_1, pM_1, qM_1, pS_1, qS_1, pC_1, qC_1⟩ := cell1.out _ hB2) | (go_at_call 44; (with_reducible refine Calls.mono ((CM.out _ hB2).yes l2) ?_); rintro e V2 ⟨rfl, hC⟩; have hB3 := hB2.trans (hC.mono hB2.size); clear hC; obtain ⟨x1_2, x2_2, pL_2, qL_2, pT_2, qT_2, pM_2, qM_2, pS_2, qS_2, pC_2, qC_2⟩ := cell1.out _ hB3) | (go_at_call 45; (with_reducible refine Calls.mono ((CS.out _ hB3).yes l3) ?_); rintro e V3 ⟨rfl, hC⟩; have hB4 := hB3.trans (hC.mono hB3.size); clear hC; obtain ⟨x1_3, x2_3, pL_3, qL_3, pT_3, qT_3, pM_3, qM_3, pS_3, qS_3, pC_3, qC_3⟩ := cell1.out _ hB4) | (go_at_call 46; (with_reducible refine Calls.mono (Tells.ask (CC.out _ hB4)) ?_); rintro e V4 ⟨bb, rfl, hbb, hC⟩; have hB5 := hB4.trans (hC.mono hB4.size); clear hC))
              go_ret
              exact ⟨bb, rfl, by rw [hbb, hE]; simp only [h0, h1, l0, l1, l2, l3, true_and], hb2.out.trans (hB5.mono hb2.out.size)⟩
            · go_wp2_with (first | (with_reducible_and_instances refine at_ldCam ?_; refine wpList_load_midTo rfl 25 _ rfl g1 0 rfl [.int .i64 a0, .int .i64 a1, .int .i64 a2, .int .i64 a3, .int .i64 a4, .int .i64 a5, .int .i64 a6, .int .i64 a7, .int .i64 a8, .int .i64 a9, .int .i64 a10, .int .i64 a11, .int .i64 a12, .int .i64 a13, .int .i64 a14, .int .i64 a15] _ rA.out Tryz.underlying25 rfl infoCam16 VA eA.out ?_) | (with_reducible_and_instances refine at_ldCam ?_; refine wpList_load_midTo rfl 25 _ rfl g2 0 rfl [.int .i64 b0, .int .i64 b1, .int .i64 b2, .int .i64 b3, .int .i64 b4, .int .i64 b5, .int .i64 b6, .int .i64 b7, .int .i64 b8, .int .i64 b9, .int .i64 b10, .int .i64 b11, .int .i64 b12, .int .i64 b13, .int .i64 b14, .int .i64 b15] _ rB.out Tryz.underlying25 rfl infoCam16 VB eB.out ?_) | (with_reducible_and_instances refine at_eqCam ?_; refine wpList_val rfl _ _ (eql_cam _ _ _ rfl a0 a1 a2 a3 a4 a5 a6 a7 a8 a9 a10 a11 a12 a13 a14 a15 b0 b1 b2 b3 b4 b5 b6 b7 b8 b9 b10 b11 b12 b13 b14 b15 true ⟨fun _ => h0, fun _ => rfl⟩ VA VB eA.out eB.out rfl rfl) ?_) | (go_at_call 42; (with_reducible refine Calls.mono (CL.out.yes l0) ?_); rintro e V0 ⟨rfl, hC⟩; have hB1 := hC; clear hC; obtain ⟨x1_0, x2_0, pL_0, qL_0, pT_0, qT_0, pM_0, qM_0, pS_0, qS_0, pC_0, qC_0⟩ := cell1.out _ hB1) | (go_at_call 43; (with_reducible refine Calls.mono ((CT.out _ hB1).yes l1) ?_); rintro e V1 ⟨rfl, hC⟩; have hB2 := hB1.trans (hC.mono hB1.size); clear hC; obtain ⟨x1_1, x2_1, pL_1, qL_1, pT_1, qT_1, pM_1, qM_1, pS_1, qS_1, pC_1, qC_1⟩ := cell1.out _ hB2) | (go_at_call 44; (with_reducible refine Calls.mono ((CM.out _ hB2).yes l2) ?_); rintro e V2 ⟨rfl, hC⟩; have hB3 := hB2.trans (hC.mono hB2.size); clear hC; obtain ⟨x1_2, x2_2, pL_2, qL_2, pT_2, qT_2, pM_2, qM_2, pS_2, qS_2, pC_2, qC_2⟩ := cell1.out _ hB3) | (go_at_call 45; (with_reducible refine Calls.mono ((CS.out _ hB3).no l3) ?_); rintro e V3 ⟨rfl, hC⟩; have hB4 := hB3.trans (hC.mono hB3.size); clear hC))
              go_ret
              exact ⟨false, rfl, ⟨fun h => (by cases h), fun h => absurd ((hE.1 h).2.2.2.2.2.1) l3⟩, hb2.out.trans (hB4.mono hb2.out.size)⟩
          · go_wp2_with (first | (with_reducible_and_instances refine at_ldCam ?_; refine wpList_load_midTo rfl 25 _ rfl g1 0 rfl [.int .i64 a0, .int .i64 a1, .int .i64 a2, .int .i64 a3, .int .i64 a4, .int .i64 a5, .int .i64 a6, .int .i64 a7, .int .i64 a8, .int .i64 a9, .int .i64 a10, .int .i64 a11, .int .i64 a12, .int .i64 a13, .int .i64 a14, .int .i64 a15] _ rA.out Tryz.underlying25 rfl infoCam16 VA eA.out ?_) | (with_reducible_and_instances refine at_ldCam ?_; refine wpList_load_midTo rfl 25 _ rfl g2 0 rfl [.int .i64 b0, .int .i64 b1, .int .i64 b2, .int .i64 b3, .int .i64 b4, .int .i64 b5, .int .i64 b6, .int .i64 b7, .int .i64 b8, .int .i64 b9, .int .i64 b10, .int .i64 b11, .int .i64 b12, .int .i64 b13, .int .i64 b14, .int .i64 b15] _ rB.out Tryz.underlying25 rfl infoCam16 VB eB.out ?_) | (with_reducible_and_instances refine at_eqCam ?_; refine wpList_val rfl _ _ (eql_cam _ _ _ rfl a0 a1 a2 a3 a4 a5 a6 a7 a8 a9 a10 a11 a12 a13 a14 a15 b0 b1 b2 b3 b4 b5 b6 b7 b8 b9 b10 b11 b12 b13 b14 b15 true ⟨fun _ => h0, fun _ => rfl⟩ VA VB eA.out eB.out rfl rfl) ?_) | (go_at_call 42; (with_reducible refine Calls.mono (CL.out.yes l0) ?_); rintro e V0 ⟨rfl, hC⟩; have hB1 := hC; clear hC; obtain ⟨x1_0, x2_0, pL_0, qL_0, pT_0, qT_0, pM_0, qM_0, pS_0, qS_0, pC_0, qC_0⟩ := cell1.out _ hB1) | (go_at_call 43; (with_reducible refine Calls.mono ((CT.out _ hB1).yes l1) ?_); rintro e V1 ⟨rfl, hC⟩; have hB2 := hB1.trans (hC.mono hB1.size); clear hC; obtain ⟨x1_1, x2_1, pL_1, qL_1, pT_1, qT_1, pM_1, qM_1, pS_1, qS_1, pC_1, qC_1⟩ := cell1.out _ hB2) | (go_at_call 44; (with_reducible refine Calls.mono ((CM.out _ hB2).no l2) ?_); rintro e V2 ⟨rfl, hC⟩; have hB3 := hB2.trans (hC.mono hB2.size); clear hC))
            go_ret
            exact ⟨false, rfl, ⟨fun h => (by cases h), fun h => absurd ((hE.1 h).2.2.2.2.1) l2⟩, hb2.out.trans (hB3.mono hb2.out.size)⟩
        · go_wp2_with (first | (with_reducible_and_instances refine at_ldCam ?_; refine wpList_load_midTo rfl 25 _ rfl g1 0 rfl [.int .i64 a0, .int .i64 a1, .int .i64 a2, .int .i64 a3, .int .i64 a4, .int .i64 a5, .int .i64 a6, .int .i64 a7, .int .i64 a8, .int .i64 a9, .int .i64 a10, .int .i64 a11, .int .i64 a12, .int .i64 a13, .int .i64 a14, .int .i64 a15] _ rA.out Tryz.underlying25 rfl infoCam16 VA eA.out ?_) | (with_reducible_and_instances refine at_ldCam ?_; refine wpList_load_midTo rfl 25 _ rfl g2 0 rfl [.int .i64 b0, .int .i64 b1, .int .i64 b2, .int .i64 b3, .int .i64 b4, .int .i64 b5, .int .i64 b6, .int .i64 b7, .int .i64 b8, .int .i64 b9, .int .i64 b10, .int .i64 b11, .int .i64 b12, .int .i64 b13, .int .i64 b14, .int .i64 b15] _ rB.out Tryz.underlying25 rfl infoCam16 VB eB.out ?_) | (with_reducible_and_instances refine at_eqCam ?_; refine wpList_val rfl _ _ (eql_cam _ _ _ rfl a0 a1 a2 a3 a4 a5 a6 a7 a8 a9 a10 a11 a12 a13 a14 a15 b0 b1 b2 b3 b4 b5 b6 b7 b8 b9 b10 b11 b12 b13 b14 b15 true ⟨fun _ => h0, fun _ => rfl⟩ VA VB eA.out eB.out rfl rfl) ?_) | (go_at_call 42; (with_reducible refine Calls.mono (CL.out.yes l0) ?_); rintro e V0 ⟨rfl, hC⟩; have hB1 := hC; clear hC; obtain ⟨x1_0, x2_0, pL_0, qL_0, pT_0, qT_0, pM_0, qM_0, pS_0, qS_0, pC_0, qC_0⟩ := cell1.out _ hB1) | (go_at_call 43; (with_reducible refine Calls.mono ((CT.out _ hB1).no l1) ?_); rintro e V1 ⟨rfl, hC⟩; have hB2 := hB1.trans (hC.mono hB1.size); clear hC))
          go_ret
          exact ⟨false, rfl, ⟨fun h => (by cases h), fun h => absurd ((hE.1 h).2.2.2.1) l1⟩, hb2.out.trans (hB2.mono hb2.out.size)⟩
      · go_wp2_with (first | (with_reducible_and_instances refine at_ldCam ?_; refine wpList_load_midTo rfl 25 _ rfl g1 0 rfl [.int .i64 a0, .int .i64 a1, .int .i64 a2, .int .i64 a3, .int .i64 a4, .int .i64 a5, .int .i64 a6, .int .i64 a7, .int .i64 a8, .int .i64 a9, .int .i64 a10, .int .i64 a11, .int .i64 a12, .int .i64 a13, .int .i64 a14, .int .i64 a15] _ rA.out Tryz.underlying25 rfl infoCam16 VA eA.out ?_) | (with_reducible_and_instances refine at_ldCam ?_; refine wpList_load_midTo rfl 25 _ rfl g2 0 rfl [.int .i64 b0, .int .i64 b1, .int .i64 b2, .int .i64 b3, .int .i64 b4, .int .i64 b5, .int .i64 b6, .int .i64 b7, .int .i64 b8, .int .i64 b9, .int .i64 b10, .int .i64 b11, .int .i64 b12, .int .i64 b13, .int .i64 b14, .int .i64 b15] _ rB.out Tryz.underlying25 rfl infoCam16 VB eB.out ?_) | (with_reducible_and_instances refine at_eqCam ?_; refine wpList_val rfl _ _ (eql_cam _ _ _ rfl a0 a1 a2 a3 a4 a5 a6 a7 a8 a9 a10 a11 a12 a13 a14 a15 b0 b1 b2 b3 b4 b5 b6 b7 b8 b9 b10 b11 b12 b13 b14 b15 true ⟨fun _ => h0, fun _ => rfl⟩ VA VB eA.out eB.out rfl rfl) ?_) | (go_at_call 42; (with_reducible refine Calls.mono (CL.out.no l0) ?_); rintro e V0 ⟨rfl, hC⟩; have hB1 := hC; clear hC))
        go_ret
        exact ⟨false, rfl, ⟨fun h => (by cases h), fun h => absurd ((hE.1 h).2.2.1) l0⟩, hb2.out.trans (hB1.mono hb2.out.size)⟩
    · by_cases z0 : s0 = t0
      · by_cases z1 : s1 = t1
        · have z2 : ¬ s2 = t2 := fun z2 => h1 (by rw [z0, z1, z2])
          subst z0; subst z1
          go_wp2_with (first | (with_reducible_and_instances refine at_ldCam ?_; refine wpList_load_midTo rfl 25 _ rfl g1 0 rfl [.int .i64 a0, .int .i64 a1, .int .i64 a2, .int .i64 a3, .int .i64 a4, .int .i64 a5, .int .i64 a6, .int .i64 a7, .int .i64 a8, .int .i64 a9, .int .i64 a10, .int .i64 a11, .int .i64 a12, .int .i64 a13, .int .i64 a14, .int .i64 a15] _ rA.out Tryz.underlying25 rfl infoCam16 VA eA.out ?_) | (with_reducible_and_instances refine at_ldCam ?_; refine wpList_load_midTo rfl 25 _ rfl g2 0 rfl [.int .i64 b0, .int .i64 b1, .int .i64 b2, .int .i64 b3, .int .i64 b4, .int .i64 b5, .int .i64 b6, .int .i64 b7, .int .i64 b8, .int .i64 b9, .int .i64 b10, .int .i64 b11, .int .i64 b12, .int .i64 b13, .int .i64 b14, .int .i64 b15] _ rB.out Tryz.underlying25 rfl infoCam16 VB eB.out ?_) | (with_reducible_and_instances refine at_eqCam ?_; refine wpList_val rfl _ _ (eql_cam _ _ _ rfl a0 a1 a2 a3 a4 a5 a6 a7 a8 a9 a10 a11 a12 a13 a14 a15 b0 b1 b2 b3 b4 b5 b6 b7 b8 b9 b10 b11 b12 b13 b14 b15 true ⟨fun _ => h0, fun _ => rfl⟩ VA VB eA.out eB.out rfl rfl) ?_))
          go_ret
          exact ⟨false, rfl, ⟨fun h => (by cases h), fun h => absurd ((hE.1 h).2.1) h1⟩, hb2.out⟩
        · subst z0
          go_wp2_with (first | (with_reducible_and_instances refine at_ldCam ?_; refine wpList_load_midTo rfl 25 _ rfl g1 0 rfl [.int .i64 a0, .int .i64 a1, .int .i64 a2, .int .i64 a3, .int .i64 a4, .int .i64 a5, .int .i64 a6, .int .i64 a7, .int .i64 a8, .int .i64 a9, .int .i64 a10, .int .i64 a11, .int .i64 a12, .int .i64 a13, .int .i64 a14, .int .i64 a15] _ rA.out Tryz.underlying25 rfl infoCam16 VA eA.out ?_) | (with_reducible_and_instances refine at_ldCam ?_; refine wpList_load_midTo rfl 25 _ rfl g2 0 rfl [.int .i64 b0, .int .i64 b1, .int .i64 b2, .int .i64 b3, .int .i64 b4, .int .i64 b5, .int .i64 b6, .int .i64 b7, .int .i64 b8, .int .i64 b9, .int .i64 b10, .int .i64 b11, .int .i64 b12, .int .i64 b13, .int .i64 b14, .int .i64 b15] _ rB.out Tryz.underlying25 rfl infoCam16 VB eB.out ?_) | (with_reducible_and_instances refine at_eqCam ?_; refine wpList_val rfl _ _ (eql_cam _ _ _ rfl a0 a1 a2 a3 a4 a5 a6 a7 a8 a9 a10 a11 a12 a13 a14 a15 b0 b1 b2 b3 b4 b5 b6 b7 b8 b9 b10 b11 b12 b13 b14 b15 true ⟨fun _ => h0, fun _ => rfl⟩ VA VB eA.out eB.out rfl rfl) ?_))
          go_ret
          exact ⟨false, rfl, ⟨fun h => (by cases h), fun h => absurd ((hE.1 h).2.1) h1⟩, hb2.out⟩
      · go_wp2_with (first | (with_reducible_and_instances refine at_ldCam ?_; refine wpList_load_midTo rfl 25 _ rfl g1 0 rfl [.int .i64 a0, .int .i64 a1, .int .i64 a2, .int .i64 a3, .int .i64 a4, .int .i64 a5, .int .i64 a6, .int .i64 a7, .int .i64 a8, .int .i64 a9, .int .i64 a10, .int .i64 a11, .int .i64 a12, .int .i64 a13, .int .i64 a14, .int .i64 a15] _ rA.out Tryz.underlying25 rfl infoCam16 VA eA.out ?_) | (with_reducible_and_instances refine at_ldCam ?_; refine wpList_load_midTo rfl 25 _ rfl g2 0 rfl [.int .i64 b0, .int .i64 b1, .int .i64 b2, .int .i64 b3, .int .i64 b4, .int .i64 b5, .int .i64 b6, .int .i64 b7, .int .i64 b8, .int .i64 b9, .int .i64 b10, .int .i64 b11, .int .i64 b12, .int .i64 b13, .int .i64 b14, .int .i64 b15] _ rB.out Tryz.underlying25 rfl infoCam16 VB eB.out ?_) | (with_reducible_and_instances refine at_eqCam ?_; refine wpList_val rfl _ _ (eql_cam _ _ _ rfl a0 a1 a2 a3 a4 a5 a6 a7 a8 a9 a10 a11 a12 a13 a14 a15 b0 b1 b2 b3 b4 b5 b6 b7 b8 b9 b10 b11 b12 b13 b14 b15 true ⟨fun _ => h0, fun _ => rfl⟩ VA VB eA.out eB.out rfl rfl) ?_))
        go_ret
        exact ⟨false, rfl, ⟨fun h => (by cases h), fun h => absurd ((hE.1 h).2.1) h1⟩, hb2.out⟩
  · go_wp2_with (first | (with_reducible_and_instances refine at_ldCam ?_; refine wpList_load_midTo rfl 25 _ rfl g1 0 rfl [.int .i64 a0, .int .i64 a1, .int .i64 a2, .int .i64 a3, .int .i64 a4, .int .i64 a5, .int .i64 a6, .int .i64 a7, .int .i64 a8, .int .i64 a9, .int .i64 a10, .int .i64 a11, .int .i64 a12, .int .i64 a13, .int .i64 a14, .int .i64 a15] _ rA.out Tryz.underlying25 rfl infoCam16 VA eA.out ?_) | (with_reducible_and_instances refine at_ldCam ?_; refine wpList_load_midTo rfl 25 _ rfl g2 0 rfl [.int .i64 b0, .int .i64 b1, .int .i64 b2, .int .i64 b3, .int .i64 b4, .int .i64 b5, .int .i64 b6, .int .i64 b7, .int .i64 b8, .int .i64 b9, .int .i64 b10, .int .i64 b11, .int .i64 b12, .int .i64 b13, .int .i64 b14, .int .i64 b15] _ rB.out Tryz.underlying25 rfl infoCam16 VB eB.out ?_) | (with_reducible_and_instances refine at_eqCam ?_; refine wpList_val rfl _ _ (eql_cam _ _ _ rfl a0 a1 a2 a3 a4 a5 a6 a7 a8 a9 a10 a11 a12 a13 a14 a15 b0 b1 b2 b3 b4 b5 b6 b7 b8 b9 b10 b11 b12 b13 b14 b15 false ⟨fun h => (by cases h), fun h => absurd h h0⟩ VA VB eA.out eB.out rfl rfl) ?_))
    go_ret
    exact ⟨false, rfl, ⟨fun h => (by cases h), fun h => absurd ((hE.1 h).1) h0⟩, hb2.out⟩
end Go.Proofs.YtdkgbdecmgligaaGreatDoor
