/- Nine squares, three by three: their ways, edges and fans; the patch in the middle is the spline of the sixteen points. -/
import Derived.Test.YtpdnaceggpdleabPatX
namespace Go.Proofs.Ytpdnaceggpdleab
open Go.RowKit
set_option linter.unusedVariables false
set_option linter.unusedSimpArgs false
set_option linter.unusedSectionVars false
set_option maxRecDepth 100000
theorem ends_nil (start : Int) : ends [] start = start := rfl
deriving instance DecidableEq for Way
deriving instance DecidableEq for Ed
instance decApart : DecidableRel apart := fun x y => by unfold apart; infer_instance
instance decLtE : DecidableRel ltE := fun x y => by unfold ltE; infer_instance
def runB (al : List Way) (v start : Int) : Int → List Way → Bool
  | _, [] => true
  | e, w :: r => decide (w ∈ al) && (w.a == v) && (w.b == e) && (r.isEmpty || w.c != start) && runB al v start w.c r
theorem fanC_run {al : List Way} {v start : Int} : ∀ (R P : List Way), FanC al v start P → (R = [] ∨ P = [] ∨ ends P start ≠ start) → runB al v start (ends P start) R = true → FanC al v start (P ++ R)
  | [], P, h, _, _ => by rw [List.append_nil]; exact h
  | w :: r, P, h, hne, hb => by
    simp only [runB, Bool.and_eq_true, decide_eq_true_eq, beq_iff_eq, Bool.or_eq_true, List.isEmpty_iff, bne_iff_ne, ne_eq] at hb
    obtain ⟨⟨⟨⟨h1, h2⟩, h3⟩, h4⟩, h5⟩ := hb
    have h6 := h.snoc h1 h2 h3 (hne.elim (fun h => by cases h) id)
    rw [show P ++ w :: r = (P ++ [w]) ++ r by simp]
    refine fanC_run r _ h6 ?_ ?_
    · rcases h4 with h | h
      · exact .inl h
      · exact .inr (.inr (by rw [ends_snoc]; exact h))
    · rw [ends_snoc]; exact h5
def fanB (al : List Way) (v : Int) (L : List Way) (r : Bool) : Bool :=
  runB al v (hubOf al v al).1 (hubOf al v al).1 L && !L.isEmpty && (L.length == (froms al v).length) && (if r = true then ends L (hubOf al v al).1 == (hubOf al v al).1 else (ends L (hubOf al v al).1 != (hubOf al v al).1) && al.all fun w => !(w.a == v && w.b == ends L (hubOf al v al).1))
theorem fanB_ok {al : List Way} {v : Int} {L : List Way} {r : Bool} (h : fanB al v L r = true) : FanR al v (hubOf al v al).1 L r ∧ L.length = (froms al v).length := by
  unfold fanB at h
  generalize (hubOf al v al).1 = s at *
  simp only [Bool.and_eq_true, beq_iff_eq, Bool.not_eq_true', List.isEmpty_eq_false_iff] at h
  obtain ⟨⟨⟨h1, h2⟩, h3⟩, h4⟩ := h
  have c := fanC_run L [] (FanC.nil al v s) (.inr (.inl rfl)) (by rw [ends_nil]; exact h1)
  rw [List.nil_append] at c
  refine ⟨⟨c, fun hr => ?_, fun hr => ?_⟩, h3⟩
  · rw [if_pos hr] at h4
    exact ⟨h2, by simpa using h4⟩
  · rw [if_neg (by rw [hr]; decide)] at h4
    simp only [Bool.and_eq_true, bne_iff_ne, ne_eq, List.all_eq_true, Bool.not_eq_true', Bool.and_eq_false_iff, beq_eq_false_iff_ne] at h4
    exact ⟨fun w hw ha hb => (h4.2 w hw).elim (fun h => h ha) (fun h => h hb), .inr h4.1⟩
def gr9 : List (List Int) := [[0, 1, 5, 4], [1, 2, 6, 5], [2, 3, 7, 6], [4, 5, 9, 8], [5, 6, 10, 9], [6, 7, 11, 10], [8, 9, 13, 12], [9, 10, 14, 13], [10, 11, 15, 14]]
def gr9W : List Way := [⟨4, 0, 0, 5⟩, ⟨0, 1, 0, 4⟩, ⟨1, 5, 0, 0⟩, ⟨5, 4, 0, 1⟩, ⟨5, 1, 1, 6⟩, ⟨1, 2, 1, 5⟩, ⟨2, 6, 1, 1⟩, ⟨6, 5, 1, 2⟩, ⟨6, 2, 2, 7⟩, ⟨2, 3, 2, 6⟩, ⟨3, 7, 2, 2⟩, ⟨7, 6, 2, 3⟩, ⟨8, 4, 3, 9⟩, ⟨4, 5, 3, 8⟩, ⟨5, 9, 3, 4⟩, ⟨9, 8, 3, 5⟩, ⟨9, 5, 4, 10⟩, ⟨5, 6, 4, 9⟩, ⟨6, 10, 4, 5⟩, ⟨10, 9, 4, 6⟩, ⟨10, 6, 5, 11⟩, ⟨6, 7, 5, 10⟩, ⟨7, 11, 5, 6⟩, ⟨11, 10, 5, 7⟩, ⟨12, 8, 6, 13⟩, ⟨8, 9, 6, 12⟩, ⟨9, 13, 6, 8⟩, ⟨13, 12, 6, 9⟩, ⟨13, 9, 7, 14⟩, ⟨9, 10, 7, 13⟩, ⟨10, 14, 7, 9⟩, ⟨14, 13, 7, 10⟩, ⟨14, 10, 8, 15⟩, ⟨10, 11, 8, 14⟩, ⟨11, 15, 8, 10⟩, ⟨15, 14, 8, 11⟩]
def gr9E : List Ed := [⟨0, 1, 0, -1⟩, ⟨0, 4, -1, 0⟩, ⟨1, 2, 1, -1⟩, ⟨1, 5, 0, 1⟩, ⟨2, 3, 2, -1⟩, ⟨2, 6, 1, 2⟩, ⟨3, 7, 2, -1⟩, ⟨4, 5, 3, 0⟩, ⟨4, 8, -1, 3⟩, ⟨5, 6, 4, 1⟩, ⟨5, 9, 3, 4⟩, ⟨6, 7, 5, 2⟩, ⟨6, 10, 4, 5⟩, ⟨7, 11, 5, -1⟩, ⟨8, 9, 6, 3⟩, ⟨8, 12, -1, 6⟩, ⟨9, 10, 7, 4⟩, ⟨9, 13, 6, 7⟩, ⟨10, 11, 8, 5⟩, ⟨10, 14, 7, 8⟩, ⟨11, 15, 8, -1⟩, ⟨12, 13, -1, 6⟩, ⟨13, 14, -1, 7⟩, ⟨14, 15, -1, 8⟩]
def gr9S : List Int := [255, 255, 255, 0, 255, 0, 255, 0, 255, 0, 0, 0, 0, 255, 0, 255, 0, 0, 0, 0, 255, 255, 255, 255]
theorem gr9_ways : waysL 0 gr9 = gr9W := rfl
theorem cases16I {v : Int} (h0 : 0 ≤ v) (h1 : v < 16) : v = 0 ∨ v = 1 ∨ v = 2 ∨ v = 3 ∨ v = 4 ∨ v = 5 ∨ v = 6 ∨ v = 7 ∨ v = 8 ∨ v = 9 ∨ v = 10 ∨ v = 11 ∨ v = 12 ∨ v = 13 ∨ v = 14 ∨ v = 15 := by omega
theorem gr9_walk : WalkOk 16 gr9 where
  long := by simp [Long, gr9]
  inr := by rw [gr9_ways]; exact of_decide_eq_true (p := ∀ w ∈ gr9W, 0 ≤ w.b ∧ w.b < 16) (by kernel_rfl)
  apart := by rw [gr9_ways]; exact of_decide_eq_true (p := gr9W.Pairwise apart) (by kernel_rfl)
  pos := by omega
  all v h0 h1 := by
    rw [gr9_ways]
    rcases cases16I h0 h1 with rfl | rfl | rfl | rfl | rfl | rfl | rfl | rfl | rfl | rfl | rfl | rfl | rfl | rfl | rfl | rfl
    · exact ⟨⟨4, 0, 0, 5⟩, of_decide_eq_true (by kernel_rfl), rfl⟩
    · exact ⟨⟨0, 1, 0, 4⟩, of_decide_eq_true (by kernel_rfl), rfl⟩
    · exact ⟨⟨1, 2, 1, 5⟩, of_decide_eq_true (by kernel_rfl), rfl⟩
    · exact ⟨⟨2, 3, 2, 6⟩, of_decide_eq_true (by kernel_rfl), rfl⟩
    · exact ⟨⟨5, 4, 0, 1⟩, of_decide_eq_true (by kernel_rfl), rfl⟩
    · exact ⟨⟨1, 5, 0, 0⟩, of_decide_eq_true (by kernel_rfl), rfl⟩
    · exact ⟨⟨2, 6, 1, 1⟩, of_decide_eq_true (by kernel_rfl), rfl⟩
    · exact ⟨⟨3, 7, 2, 2⟩, of_decide_eq_true (by kernel_rfl), rfl⟩
    · exact ⟨⟨9, 8, 3, 5⟩, of_decide_eq_true (by kernel_rfl), rfl⟩
    · exact ⟨⟨5, 9, 3, 4⟩, of_decide_eq_true (by kernel_rfl), rfl⟩
    · exact ⟨⟨6, 10, 4, 5⟩, of_decide_eq_true (by kernel_rfl), rfl⟩
    · exact ⟨⟨7, 11, 5, 6⟩, of_decide_eq_true (by kernel_rfl), rfl⟩
    · exact ⟨⟨13, 12, 6, 9⟩, of_decide_eq_true (by kernel_rfl), rfl⟩
    · exact ⟨⟨9, 13, 6, 8⟩, of_decide_eq_true (by kernel_rfl), rfl⟩
    · exact ⟨⟨10, 14, 7, 9⟩, of_decide_eq_true (by kernel_rfl), rfl⟩
    · exact ⟨⟨11, 15, 8, 10⟩, of_decide_eq_true (by kernel_rfl), rfl⟩
theorem gr9_surf : Surf 16 gr9 := ⟨gr9_walk, fun v h0 h1 => by
  rw [gr9_ways]
  rcases cases16I h0 h1 with rfl | rfl | rfl | rfl | rfl | rfl | rfl | rfl | rfl | rfl | rfl | rfl | rfl | rfl | rfl | rfl
  · exact ⟨[⟨0, 1, 0, 4⟩], false, fanB_ok (by kernel_rfl)⟩
  · exact ⟨[⟨1, 2, 1, 5⟩, ⟨1, 5, 0, 0⟩], false, fanB_ok (by kernel_rfl)⟩
  · exact ⟨[⟨2, 3, 2, 6⟩, ⟨2, 6, 1, 1⟩], false, fanB_ok (by kernel_rfl)⟩
  · exact ⟨[⟨3, 7, 2, 2⟩], false, fanB_ok (by kernel_rfl)⟩
  · exact ⟨[⟨4, 0, 0, 5⟩, ⟨4, 5, 3, 8⟩], false, fanB_ok (by kernel_rfl)⟩
  · exact ⟨[⟨5, 4, 0, 1⟩, ⟨5, 1, 1, 6⟩, ⟨5, 6, 4, 9⟩, ⟨5, 9, 3, 4⟩], true, fanB_ok (by kernel_rfl)⟩
  · exact ⟨[⟨6, 5, 1, 2⟩, ⟨6, 2, 2, 7⟩, ⟨6, 7, 5, 10⟩, ⟨6, 10, 4, 5⟩], true, fanB_ok (by kernel_rfl)⟩
  · exact ⟨[⟨7, 11, 5, 6⟩, ⟨7, 6, 2, 3⟩], false, fanB_ok (by kernel_rfl)⟩
  · exact ⟨[⟨8, 4, 3, 9⟩, ⟨8, 9, 6, 12⟩], false, fanB_ok (by kernel_rfl)⟩
  · exact ⟨[⟨9, 8, 3, 5⟩, ⟨9, 5, 4, 10⟩, ⟨9, 10, 7, 13⟩, ⟨9, 13, 6, 8⟩], true, fanB_ok (by kernel_rfl)⟩
  · exact ⟨[⟨10, 9, 4, 6⟩, ⟨10, 6, 5, 11⟩, ⟨10, 11, 8, 14⟩, ⟨10, 14, 7, 9⟩], true, fanB_ok (by kernel_rfl)⟩
  · exact ⟨[⟨11, 15, 8, 10⟩, ⟨11, 10, 5, 7⟩], false, fanB_ok (by kernel_rfl)⟩
  · exact ⟨[⟨12, 8, 6, 13⟩], false, fanB_ok (by kernel_rfl)⟩
  · exact ⟨[⟨13, 12, 6, 9⟩, ⟨13, 9, 7, 14⟩], false, fanB_ok (by kernel_rfl)⟩
  · exact ⟨[⟨14, 13, 7, 10⟩, ⟨14, 10, 8, 15⟩], false, fanB_ok (by kernel_rfl)⟩
  · exact ⟨[⟨15, 14, 8, 11⟩], false, fanB_ok (by kernel_rfl)⟩⟩
theorem gr9_edges : EdgesR (waysL 0 gr9) gr9E := by
  rw [gr9_ways]
  have k1 : ∀ e ∈ gr9E, e ∈ gr9W.map fun w => edOf gr9W (min w.a w.b) (max w.a w.b) := of_decide_eq_true (by kernel_rfl)
  have k2 : ∀ e ∈ gr9W.map (fun w => edOf gr9W (min w.a w.b) (max w.a w.b)), e ∈ gr9E := of_decide_eq_true (by kernel_rfl)
  refine ⟨of_decide_eq_true (p := gr9E.Pairwise ltE) (by kernel_rfl), fun e => ⟨fun h => ?_, fun ⟨w, hw, h⟩ => ?_⟩⟩
  · obtain ⟨w, hw, rfl⟩ := List.mem_map.1 (k1 e h)
    exact ⟨w, hw, rfl⟩
  · rw [h]; exact k2 _ (List.mem_map.2 ⟨w, hw, rfl⟩)
/-- A vertex's faces, in some order. -/
theorem fans_perm {n : Int} {fs : List (List Int)} {t : TopoT} (h : TopoS n fs t) (v : Nat) (h1 : v < t.fans.length) : (t.fans[v]).Perm ((froms (waysL 0 fs) v).map Way.f) := by
  have := h.nf
  have := h.nr
  obtain ⟨L, hF, hl, hfe⟩ := h.fan v h1 (by omega)
  rw [hfe]
  have hn : (froms (waysL 0 fs) v).Nodup := by
    rw [List.nodup_iff_pairwise_ne]
    exact (List.Pairwise.filter _ h.walk.apart).imp fun {x y} h e => h.2 ⟨congrArg Way.a e, congrArg Way.b e⟩
  refine List.Perm.map _ ((List.perm_ext_iff_of_nodup (hF.toFanC.nodup h.walk) hn).2 fun w => ⟨fun hw => mem_froms.2 (hF.mem w hw), fun hw => ?_⟩)
  obtain ⟨a, b⟩ := mem_froms.1 hw
  exact fan_all h.walk hF hl w a b
theorem perm_sum {l m : List Int} (h : l.Perm m) : l.sum = m.sum := by
  induction h with
  | nil => rfl
  | cons x _ ih => simp only [List.sum_cons, ih]
  | swap x y l => simp only [List.sum_cons]; omega
  | trans _ _ ih1 ih2 => rw [ih1, ih2]
theorem co_mean {g : P3 → Int} (hg : Co g) {l : List (P3 × Int)} {d : Int} (hl : l.length ≤ 1000000) (hw : WOk g l) : g (meanP d l) = rnd (l.map fun q => g q.1 * q.2).sum d := by
  unfold meanP
  rw [hg.of, co_foldN hg l Z3 hw (by rw [hg.z]; omega), hg.z, Int.zero_add]
/-- The net of the nine squares over sixteen points. -/
def netG (vs : List P3) (fans : List (List Int)) (rs : List Bool) : NetD := ⟨vs, gr9, gr9S, ⟨gr9E, fans, rs⟩⟩
theorem netG_of {N : NetD} {vs : List P3} (hv : N.vs = vs) (hf : N.fs = gr9) (hT : TopoS 16 gr9 N.t) (hs : sharpP N.t.es [] = some N.sh) : ∃ fans rs, N = netG vs fans rs ∧ (fans.length = 16) ∧ ∀ (v : Nat) (h : v < fans.length), (fans[v]).Perm ((froms gr9W v).map Way.f) := by
  have he := hT.edges.one gr9_edges
  have hp := fans_perm hT
  have hl := hT.nf
  rw [he] at hs
  have h2 : N.sh = gr9S := (Option.some.inj hs).symm
  obtain ⟨a, b, c, ⟨es, fans, rs⟩⟩ := N
  simp only at hv hf he h2 hp hl
  subst hv hf he h2
  exact ⟨fans, rs, rfl, by omega, hp⟩
section
variable {vs : List P3} {fans : List (List Int)} {rs : List Bool} (hl : fans.length = 16) (hp : ∀ (v : Nat) (h : v < fans.length), (fans[v]).Perm ((froms gr9W v).map Way.f)) {g : P3 → Int} (hg : Co g) (hin : ∀ p ∈ vs, InP 16384 p)
theorem ends_5 : (netG vs fans rs).ends 5 = [] := by kernel_rfl
include hl hp in
theorem fan_5 : (fans.getD 5 []).Perm [0, 1, 3, 4] := by
  have h := hp 5 (by omega)
  rw [List.getD_eq_getElem?_getD, List.getElem?_eq_getElem (by omega), Option.getD_some]
  exact h
include hl hp in
theorem around_5 : (netG vs fans rs).around 5 = 4 := by
  unfold NetD.around
  split
  · have := (fan_5 hl hp).length_eq
    show ((fans.getD 5 []).length : Int) = 4
    rw [this]; rfl
  · rfl
theorem ends_6 : (netG vs fans rs).ends 6 = [] := by kernel_rfl
include hl hp in
theorem fan_6 : (fans.getD 6 []).Perm [1, 2, 4, 5] := by
  have h := hp 6 (by omega)
  rw [List.getD_eq_getElem?_getD, List.getElem?_eq_getElem (by omega), Option.getD_some]
  exact h
include hl hp in
theorem around_6 : (netG vs fans rs).around 6 = 4 := by
  unfold NetD.around
  split
  · have := (fan_6 hl hp).length_eq
    show ((fans.getD 6 []).length : Int) = 4
    rw [this]; rfl
  · rfl
theorem ends_9 : (netG vs fans rs).ends 9 = [] := by kernel_rfl
include hl hp in
theorem fan_9 : (fans.getD 9 []).Perm [3, 4, 6, 7] := by
  have h := hp 9 (by omega)
  rw [List.getD_eq_getElem?_getD, List.getElem?_eq_getElem (by omega), Option.getD_some]
  exact h
include hl hp in
theorem around_9 : (netG vs fans rs).around 9 = 4 := by
  unfold NetD.around
  split
  · have := (fan_9 hl hp).length_eq
    show ((fans.getD 9 []).length : Int) = 4
    rw [this]; rfl
  · rfl
theorem ends_10 : (netG vs fans rs).ends 10 = [] := by kernel_rfl
include hl hp in
theorem fan_10 : (fans.getD 10 []).Perm [4, 5, 7, 8] := by
  have h := hp 10 (by omega)
  rw [List.getD_eq_getElem?_getD, List.getElem?_eq_getElem (by omega), Option.getD_some]
  exact h
include hl hp in
theorem around_10 : (netG vs fans rs).around 10 = 4 := by
  unfold NetD.around
  split
  · have := (fan_10 hl hp).length_eq
    show ((fans.getD 10 []).length : Int) = 4
    rw [this]; rfl
  · rfl
include hl hp hg hin in
theorem inner_0_5 : g ((netG vs fans rs).inner 0 5) = rnd (g (vat vs 5) * 4 + g (vat vs 4) * 2 + g (vat vs 0) * 1 + g (vat vs 1) * 2) 9 := by
  have e : (netG vs fans rs).inner 0 5 = meanP ((netG vs fans rs).around 5 + 5) [(vat vs 5, (netG vs fans rs).around 5), (vat vs 4, 2), (vat vs 0, 1), (vat vs 1, 2)] := by kernel_rfl
  have b := fun k => co_vat hg (m := 16384) (by omega) hin k
  have b0 := b 5
  have b1 := b 4
  have b2 := b 0
  have b3 := b 1
  rw [e, around_5 hl hp, co_mean hg (by simp) (fun q hq => by
    simp only [List.mem_cons, List.not_mem_nil, or_false] at hq
    rcases hq with rfl | rfl | rfl | rfl <;> (simp only; omega))]
  simp only [List.map_cons, List.map_nil, List.sum_cons, List.sum_nil]
  congr 1; omega
include hl hp hg hin in
theorem innb_0_5 : -16385 ≤ g ((netG vs fans rs).inner 0 5) ∧ g ((netG vs fans rs).inner 0 5) ≤ 16385 := by
  have b := fun k => co_vat hg (m := 16384) (by omega) hin k
  have b0 := b 5
  have b1 := b 4
  have b2 := b 0
  have b3 := b 1
  rw [inner_0_5 hl hp hg hin, rnd_in (by omega)]
  omega
include hl hp hg hin in
theorem inner_1_5 : g ((netG vs fans rs).inner 1 5) = rnd (g (vat vs 5) * 4 + g (vat vs 1) * 2 + g (vat vs 2) * 1 + g (vat vs 6) * 2) 9 := by
  have e : (netG vs fans rs).inner 1 5 = meanP ((netG vs fans rs).around 5 + 5) [(vat vs 5, (netG vs fans rs).around 5), (vat vs 1, 2), (vat vs 2, 1), (vat vs 6, 2)] := by kernel_rfl
  have b := fun k => co_vat hg (m := 16384) (by omega) hin k
  have b0 := b 5
  have b1 := b 1
  have b2 := b 2
  have b3 := b 6
  rw [e, around_5 hl hp, co_mean hg (by simp) (fun q hq => by
    simp only [List.mem_cons, List.not_mem_nil, or_false] at hq
    rcases hq with rfl | rfl | rfl | rfl <;> (simp only; omega))]
  simp only [List.map_cons, List.map_nil, List.sum_cons, List.sum_nil]
  congr 1; omega
include hl hp hg hin in
theorem innb_1_5 : -16385 ≤ g ((netG vs fans rs).inner 1 5) ∧ g ((netG vs fans rs).inner 1 5) ≤ 16385 := by
  have b := fun k => co_vat hg (m := 16384) (by omega) hin k
  have b0 := b 5
  have b1 := b 1
  have b2 := b 2
  have b3 := b 6
  rw [inner_1_5 hl hp hg hin, rnd_in (by omega)]
  omega
include hl hp hg hin in
theorem inner_1_6 : g ((netG vs fans rs).inner 1 6) = rnd (g (vat vs 6) * 4 + g (vat vs 5) * 2 + g (vat vs 1) * 1 + g (vat vs 2) * 2) 9 := by
  have e : (netG vs fans rs).inner 1 6 = meanP ((netG vs fans rs).around 6 + 5) [(vat vs 6, (netG vs fans rs).around 6), (vat vs 5, 2), (vat vs 1, 1), (vat vs 2, 2)] := by kernel_rfl
  have b := fun k => co_vat hg (m := 16384) (by omega) hin k
  have b0 := b 6
  have b1 := b 5
  have b2 := b 1
  have b3 := b 2
  rw [e, around_6 hl hp, co_mean hg (by simp) (fun q hq => by
    simp only [List.mem_cons, List.not_mem_nil, or_false] at hq
    rcases hq with rfl | rfl | rfl | rfl <;> (simp only; omega))]
  simp only [List.map_cons, List.map_nil, List.sum_cons, List.sum_nil]
  congr 1; omega
include hl hp hg hin in
theorem innb_1_6 : -16385 ≤ g ((netG vs fans rs).inner 1 6) ∧ g ((netG vs fans rs).inner 1 6) ≤ 16385 := by
  have b := fun k => co_vat hg (m := 16384) (by omega) hin k
  have b0 := b 6
  have b1 := b 5
  have b2 := b 1
  have b3 := b 2
  rw [inner_1_6 hl hp hg hin, rnd_in (by omega)]
  omega
include hl hp hg hin in
theorem inner_2_6 : g ((netG vs fans rs).inner 2 6) = rnd (g (vat vs 6) * 4 + g (vat vs 2) * 2 + g (vat vs 3) * 1 + g (vat vs 7) * 2) 9 := by
  have e : (netG vs fans rs).inner 2 6 = meanP ((netG vs fans rs).around 6 + 5) [(vat vs 6, (netG vs fans rs).around 6), (vat vs 2, 2), (vat vs 3, 1), (vat vs 7, 2)] := by kernel_rfl
  have b := fun k => co_vat hg (m := 16384) (by omega) hin k
  have b0 := b 6
  have b1 := b 2
  have b2 := b 3
  have b3 := b 7
  rw [e, around_6 hl hp, co_mean hg (by simp) (fun q hq => by
    simp only [List.mem_cons, List.not_mem_nil, or_false] at hq
    rcases hq with rfl | rfl | rfl | rfl <;> (simp only; omega))]
  simp only [List.map_cons, List.map_nil, List.sum_cons, List.sum_nil]
  congr 1; omega
include hl hp hg hin in
theorem innb_2_6 : -16385 ≤ g ((netG vs fans rs).inner 2 6) ∧ g ((netG vs fans rs).inner 2 6) ≤ 16385 := by
  have b := fun k => co_vat hg (m := 16384) (by omega) hin k
  have b0 := b 6
  have b1 := b 2
  have b2 := b 3
  have b3 := b 7
  rw [inner_2_6 hl hp hg hin, rnd_in (by omega)]
  omega
include hl hp hg hin in
theorem inner_3_5 : g ((netG vs fans rs).inner 3 5) = rnd (g (vat vs 5) * 4 + g (vat vs 9) * 2 + g (vat vs 8) * 1 + g (vat vs 4) * 2) 9 := by
  have e : (netG vs fans rs).inner 3 5 = meanP ((netG vs fans rs).around 5 + 5) [(vat vs 5, (netG vs fans rs).around 5), (vat vs 9, 2), (vat vs 8, 1), (vat vs 4, 2)] := by kernel_rfl
  have b := fun k => co_vat hg (m := 16384) (by omega) hin k
  have b0 := b 5
  have b1 := b 9
  have b2 := b 8
  have b3 := b 4
  rw [e, around_5 hl hp, co_mean hg (by simp) (fun q hq => by
    simp only [List.mem_cons, List.not_mem_nil, or_false] at hq
    rcases hq with rfl | rfl | rfl | rfl <;> (simp only; omega))]
  simp only [List.map_cons, List.map_nil, List.sum_cons, List.sum_nil]
  congr 1; omega
include hl hp hg hin in
theorem innb_3_5 : -16385 ≤ g ((netG vs fans rs).inner 3 5) ∧ g ((netG vs fans rs).inner 3 5) ≤ 16385 := by
  have b := fun k => co_vat hg (m := 16384) (by omega) hin k
  have b0 := b 5
  have b1 := b 9
  have b2 := b 8
  have b3 := b 4
  rw [inner_3_5 hl hp hg hin, rnd_in (by omega)]
  omega
include hl hp hg hin in
theorem inner_3_9 : g ((netG vs fans rs).inner 3 9) = rnd (g (vat vs 9) * 4 + g (vat vs 8) * 2 + g (vat vs 4) * 1 + g (vat vs 5) * 2) 9 := by
  have e : (netG vs fans rs).inner 3 9 = meanP ((netG vs fans rs).around 9 + 5) [(vat vs 9, (netG vs fans rs).around 9), (vat vs 8, 2), (vat vs 4, 1), (vat vs 5, 2)] := by kernel_rfl
  have b := fun k => co_vat hg (m := 16384) (by omega) hin k
  have b0 := b 9
  have b1 := b 8
  have b2 := b 4
  have b3 := b 5
  rw [e, around_9 hl hp, co_mean hg (by simp) (fun q hq => by
    simp only [List.mem_cons, List.not_mem_nil, or_false] at hq
    rcases hq with rfl | rfl | rfl | rfl <;> (simp only; omega))]
  simp only [List.map_cons, List.map_nil, List.sum_cons, List.sum_nil]
  congr 1; omega
include hl hp hg hin in
theorem innb_3_9 : -16385 ≤ g ((netG vs fans rs).inner 3 9) ∧ g ((netG vs fans rs).inner 3 9) ≤ 16385 := by
  have b := fun k => co_vat hg (m := 16384) (by omega) hin k
  have b0 := b 9
  have b1 := b 8
  have b2 := b 4
  have b3 := b 5
  rw [inner_3_9 hl hp hg hin, rnd_in (by omega)]
  omega
include hl hp hg hin in
theorem inner_4_5 : g ((netG vs fans rs).inner 4 5) = rnd (g (vat vs 5) * 4 + g (vat vs 6) * 2 + g (vat vs 10) * 1 + g (vat vs 9) * 2) 9 := by
  have e : (netG vs fans rs).inner 4 5 = meanP ((netG vs fans rs).around 5 + 5) [(vat vs 5, (netG vs fans rs).around 5), (vat vs 6, 2), (vat vs 10, 1), (vat vs 9, 2)] := by kernel_rfl
  have b := fun k => co_vat hg (m := 16384) (by omega) hin k
  have b0 := b 5
  have b1 := b 6
  have b2 := b 10
  have b3 := b 9
  rw [e, around_5 hl hp, co_mean hg (by simp) (fun q hq => by
    simp only [List.mem_cons, List.not_mem_nil, or_false] at hq
    rcases hq with rfl | rfl | rfl | rfl <;> (simp only; omega))]
  simp only [List.map_cons, List.map_nil, List.sum_cons, List.sum_nil]
  congr 1; omega
include hl hp hg hin in
theorem innb_4_5 : -16385 ≤ g ((netG vs fans rs).inner 4 5) ∧ g ((netG vs fans rs).inner 4 5) ≤ 16385 := by
  have b := fun k => co_vat hg (m := 16384) (by omega) hin k
  have b0 := b 5
  have b1 := b 6
  have b2 := b 10
  have b3 := b 9
  rw [inner_4_5 hl hp hg hin, rnd_in (by omega)]
  omega
include hl hp hg hin in
theorem inner_4_6 : g ((netG vs fans rs).inner 4 6) = rnd (g (vat vs 6) * 4 + g (vat vs 10) * 2 + g (vat vs 9) * 1 + g (vat vs 5) * 2) 9 := by
  have e : (netG vs fans rs).inner 4 6 = meanP ((netG vs fans rs).around 6 + 5) [(vat vs 6, (netG vs fans rs).around 6), (vat vs 10, 2), (vat vs 9, 1), (vat vs 5, 2)] := by kernel_rfl
  have b := fun k => co_vat hg (m := 16384) (by omega) hin k
  have b0 := b 6
  have b1 := b 10
  have b2 := b 9
  have b3 := b 5
  rw [e, around_6 hl hp, co_mean hg (by simp) (fun q hq => by
    simp only [List.mem_cons, List.not_mem_nil, or_false] at hq
    rcases hq with rfl | rfl | rfl | rfl <;> (simp only; omega))]
  simp only [List.map_cons, List.map_nil, List.sum_cons, List.sum_nil]
  congr 1; omega
include hl hp hg hin in
theorem innb_4_6 : -16385 ≤ g ((netG vs fans rs).inner 4 6) ∧ g ((netG vs fans rs).inner 4 6) ≤ 16385 := by
  have b := fun k => co_vat hg (m := 16384) (by omega) hin k
  have b0 := b 6
  have b1 := b 10
  have b2 := b 9
  have b3 := b 5
  rw [inner_4_6 hl hp hg hin, rnd_in (by omega)]
  omega
include hl hp hg hin in
theorem inner_4_9 : g ((netG vs fans rs).inner 4 9) = rnd (g (vat vs 9) * 4 + g (vat vs 5) * 2 + g (vat vs 6) * 1 + g (vat vs 10) * 2) 9 := by
  have e : (netG vs fans rs).inner 4 9 = meanP ((netG vs fans rs).around 9 + 5) [(vat vs 9, (netG vs fans rs).around 9), (vat vs 5, 2), (vat vs 6, 1), (vat vs 10, 2)] := by kernel_rfl
  have b := fun k => co_vat hg (m := 16384) (by omega) hin k
  have b0 := b 9
  have b1 := b 5
  have b2 := b 6
  have b3 := b 10
  rw [e, around_9 hl hp, co_mean hg (by simp) (fun q hq => by
    simp only [List.mem_cons, List.not_mem_nil, or_false] at hq
    rcases hq with rfl | rfl | rfl | rfl <;> (simp only; omega))]
  simp only [List.map_cons, List.map_nil, List.sum_cons, List.sum_nil]
  congr 1; omega
include hl hp hg hin in
theorem innb_4_9 : -16385 ≤ g ((netG vs fans rs).inner 4 9) ∧ g ((netG vs fans rs).inner 4 9) ≤ 16385 := by
  have b := fun k => co_vat hg (m := 16384) (by omega) hin k
  have b0 := b 9
  have b1 := b 5
  have b2 := b 6
  have b3 := b 10
  rw [inner_4_9 hl hp hg hin, rnd_in (by omega)]
  omega
include hl hp hg hin in
theorem inner_4_10 : g ((netG vs fans rs).inner 4 10) = rnd (g (vat vs 10) * 4 + g (vat vs 9) * 2 + g (vat vs 5) * 1 + g (vat vs 6) * 2) 9 := by
  have e : (netG vs fans rs).inner 4 10 = meanP ((netG vs fans rs).around 10 + 5) [(vat vs 10, (netG vs fans rs).around 10), (vat vs 9, 2), (vat vs 5, 1), (vat vs 6, 2)] := by kernel_rfl
  have b := fun k => co_vat hg (m := 16384) (by omega) hin k
  have b0 := b 10
  have b1 := b 9
  have b2 := b 5
  have b3 := b 6
  rw [e, around_10 hl hp, co_mean hg (by simp) (fun q hq => by
    simp only [List.mem_cons, List.not_mem_nil, or_false] at hq
    rcases hq with rfl | rfl | rfl | rfl <;> (simp only; omega))]
  simp only [List.map_cons, List.map_nil, List.sum_cons, List.sum_nil]
  congr 1; omega
include hl hp hg hin in
theorem innb_4_10 : -16385 ≤ g ((netG vs fans rs).inner 4 10) ∧ g ((netG vs fans rs).inner 4 10) ≤ 16385 := by
  have b := fun k => co_vat hg (m := 16384) (by omega) hin k
  have b0 := b 10
  have b1 := b 9
  have b2 := b 5
  have b3 := b 6
  rw [inner_4_10 hl hp hg hin, rnd_in (by omega)]
  omega
include hl hp hg hin in
theorem inner_5_6 : g ((netG vs fans rs).inner 5 6) = rnd (g (vat vs 6) * 4 + g (vat vs 7) * 2 + g (vat vs 11) * 1 + g (vat vs 10) * 2) 9 := by
  have e : (netG vs fans rs).inner 5 6 = meanP ((netG vs fans rs).around 6 + 5) [(vat vs 6, (netG vs fans rs).around 6), (vat vs 7, 2), (vat vs 11, 1), (vat vs 10, 2)] := by kernel_rfl
  have b := fun k => co_vat hg (m := 16384) (by omega) hin k
  have b0 := b 6
  have b1 := b 7
  have b2 := b 11
  have b3 := b 10
  rw [e, around_6 hl hp, co_mean hg (by simp) (fun q hq => by
    simp only [List.mem_cons, List.not_mem_nil, or_false] at hq
    rcases hq with rfl | rfl | rfl | rfl <;> (simp only; omega))]
  simp only [List.map_cons, List.map_nil, List.sum_cons, List.sum_nil]
  congr 1; omega
include hl hp hg hin in
theorem innb_5_6 : -16385 ≤ g ((netG vs fans rs).inner 5 6) ∧ g ((netG vs fans rs).inner 5 6) ≤ 16385 := by
  have b := fun k => co_vat hg (m := 16384) (by omega) hin k
  have b0 := b 6
  have b1 := b 7
  have b2 := b 11
  have b3 := b 10
  rw [inner_5_6 hl hp hg hin, rnd_in (by omega)]
  omega
include hl hp hg hin in
theorem inner_5_10 : g ((netG vs fans rs).inner 5 10) = rnd (g (vat vs 10) * 4 + g (vat vs 6) * 2 + g (vat vs 7) * 1 + g (vat vs 11) * 2) 9 := by
  have e : (netG vs fans rs).inner 5 10 = meanP ((netG vs fans rs).around 10 + 5) [(vat vs 10, (netG vs fans rs).around 10), (vat vs 6, 2), (vat vs 7, 1), (vat vs 11, 2)] := by kernel_rfl
  have b := fun k => co_vat hg (m := 16384) (by omega) hin k
  have b0 := b 10
  have b1 := b 6
  have b2 := b 7
  have b3 := b 11
  rw [e, around_10 hl hp, co_mean hg (by simp) (fun q hq => by
    simp only [List.mem_cons, List.not_mem_nil, or_false] at hq
    rcases hq with rfl | rfl | rfl | rfl <;> (simp only; omega))]
  simp only [List.map_cons, List.map_nil, List.sum_cons, List.sum_nil]
  congr 1; omega
include hl hp hg hin in
theorem innb_5_10 : -16385 ≤ g ((netG vs fans rs).inner 5 10) ∧ g ((netG vs fans rs).inner 5 10) ≤ 16385 := by
  have b := fun k => co_vat hg (m := 16384) (by omega) hin k
  have b0 := b 10
  have b1 := b 6
  have b2 := b 7
  have b3 := b 11
  rw [inner_5_10 hl hp hg hin, rnd_in (by omega)]
  omega
include hl hp hg hin in
theorem inner_6_9 : g ((netG vs fans rs).inner 6 9) = rnd (g (vat vs 9) * 4 + g (vat vs 13) * 2 + g (vat vs 12) * 1 + g (vat vs 8) * 2) 9 := by
  have e : (netG vs fans rs).inner 6 9 = meanP ((netG vs fans rs).around 9 + 5) [(vat vs 9, (netG vs fans rs).around 9), (vat vs 13, 2), (vat vs 12, 1), (vat vs 8, 2)] := by kernel_rfl
  have b := fun k => co_vat hg (m := 16384) (by omega) hin k
  have b0 := b 9
  have b1 := b 13
  have b2 := b 12
  have b3 := b 8
  rw [e, around_9 hl hp, co_mean hg (by simp) (fun q hq => by
    simp only [List.mem_cons, List.not_mem_nil, or_false] at hq
    rcases hq with rfl | rfl | rfl | rfl <;> (simp only; omega))]
  simp only [List.map_cons, List.map_nil, List.sum_cons, List.sum_nil]
  congr 1; omega
include hl hp hg hin in
theorem innb_6_9 : -16385 ≤ g ((netG vs fans rs).inner 6 9) ∧ g ((netG vs fans rs).inner 6 9) ≤ 16385 := by
  have b := fun k => co_vat hg (m := 16384) (by omega) hin k
  have b0 := b 9
  have b1 := b 13
  have b2 := b 12
  have b3 := b 8
  rw [inner_6_9 hl hp hg hin, rnd_in (by omega)]
  omega
include hl hp hg hin in
theorem inner_7_9 : g ((netG vs fans rs).inner 7 9) = rnd (g (vat vs 9) * 4 + g (vat vs 10) * 2 + g (vat vs 14) * 1 + g (vat vs 13) * 2) 9 := by
  have e : (netG vs fans rs).inner 7 9 = meanP ((netG vs fans rs).around 9 + 5) [(vat vs 9, (netG vs fans rs).around 9), (vat vs 10, 2), (vat vs 14, 1), (vat vs 13, 2)] := by kernel_rfl
  have b := fun k => co_vat hg (m := 16384) (by omega) hin k
  have b0 := b 9
  have b1 := b 10
  have b2 := b 14
  have b3 := b 13
  rw [e, around_9 hl hp, co_mean hg (by simp) (fun q hq => by
    simp only [List.mem_cons, List.not_mem_nil, or_false] at hq
    rcases hq with rfl | rfl | rfl | rfl <;> (simp only; omega))]
  simp only [List.map_cons, List.map_nil, List.sum_cons, List.sum_nil]
  congr 1; omega
include hl hp hg hin in
theorem innb_7_9 : -16385 ≤ g ((netG vs fans rs).inner 7 9) ∧ g ((netG vs fans rs).inner 7 9) ≤ 16385 := by
  have b := fun k => co_vat hg (m := 16384) (by omega) hin k
  have b0 := b 9
  have b1 := b 10
  have b2 := b 14
  have b3 := b 13
  rw [inner_7_9 hl hp hg hin, rnd_in (by omega)]
  omega
include hl hp hg hin in
theorem inner_7_10 : g ((netG vs fans rs).inner 7 10) = rnd (g (vat vs 10) * 4 + g (vat vs 14) * 2 + g (vat vs 13) * 1 + g (vat vs 9) * 2) 9 := by
  have e : (netG vs fans rs).inner 7 10 = meanP ((netG vs fans rs).around 10 + 5) [(vat vs 10, (netG vs fans rs).around 10), (vat vs 14, 2), (vat vs 13, 1), (vat vs 9, 2)] := by kernel_rfl
  have b := fun k => co_vat hg (m := 16384) (by omega) hin k
  have b0 := b 10
  have b1 := b 14
  have b2 := b 13
  have b3 := b 9
  rw [e, around_10 hl hp, co_mean hg (by simp) (fun q hq => by
    simp only [List.mem_cons, List.not_mem_nil, or_false] at hq
    rcases hq with rfl | rfl | rfl | rfl <;> (simp only; omega))]
  simp only [List.map_cons, List.map_nil, List.sum_cons, List.sum_nil]
  congr 1; omega
include hl hp hg hin in
theorem innb_7_10 : -16385 ≤ g ((netG vs fans rs).inner 7 10) ∧ g ((netG vs fans rs).inner 7 10) ≤ 16385 := by
  have b := fun k => co_vat hg (m := 16384) (by omega) hin k
  have b0 := b 10
  have b1 := b 14
  have b2 := b 13
  have b3 := b 9
  rw [inner_7_10 hl hp hg hin, rnd_in (by omega)]
  omega
include hl hp hg hin in
theorem inner_8_10 : g ((netG vs fans rs).inner 8 10) = rnd (g (vat vs 10) * 4 + g (vat vs 11) * 2 + g (vat vs 15) * 1 + g (vat vs 14) * 2) 9 := by
  have e : (netG vs fans rs).inner 8 10 = meanP ((netG vs fans rs).around 10 + 5) [(vat vs 10, (netG vs fans rs).around 10), (vat vs 11, 2), (vat vs 15, 1), (vat vs 14, 2)] := by kernel_rfl
  have b := fun k => co_vat hg (m := 16384) (by omega) hin k
  have b0 := b 10
  have b1 := b 11
  have b2 := b 15
  have b3 := b 14
  rw [e, around_10 hl hp, co_mean hg (by simp) (fun q hq => by
    simp only [List.mem_cons, List.not_mem_nil, or_false] at hq
    rcases hq with rfl | rfl | rfl | rfl <;> (simp only; omega))]
  simp only [List.map_cons, List.map_nil, List.sum_cons, List.sum_nil]
  congr 1; omega
include hl hp hg hin in
theorem innb_8_10 : -16385 ≤ g ((netG vs fans rs).inner 8 10) ∧ g ((netG vs fans rs).inner 8 10) ≤ 16385 := by
  have b := fun k => co_vat hg (m := 16384) (by omega) hin k
  have b0 := b 10
  have b1 := b 11
  have b2 := b 15
  have b3 := b 14
  rw [inner_8_10 hl hp hg hin, rnd_in (by omega)]
  omega
end
/-- The spline's weights. -/
def rowW (j y : Nat) : Int := (([[1, 4, 1, 0], [0, 4, 2, 0], [0, 2, 4, 0], [0, 1, 4, 1]] : List (List Int)).getD j []).getD y 0
def splL (vs : List P3) (j i n : Nat) : List (P3 × Int) := (List.range n).map fun k : Nat => (vat vs (k : Int), rowW j (k / 4) * rowW i (k % 4))
section
variable {vs : List P3} {fans : List (List Int)} {rs : List Bool} (hl : fans.length = 16) (hp : ∀ (v : Nat) (h : v < fans.length), (fans[v]).Perm ((froms gr9W v).map Way.f)) {g : P3 → Int} (hg : Co g) (hin : ∀ p ∈ vs, InP 16384 p)
include hg hin in
theorem spl_0 : g (foldN Z3 (splL vs 0 0 16)) = g (vat vs 0) * 1 + g (vat vs 1) * 4 + g (vat vs 2) * 1 + g (vat vs 4) * 4 + g (vat vs 5) * 16 + g (vat vs 6) * 4 + g (vat vs 8) * 1 + g (vat vs 9) * 4 + g (vat vs 10) * 1 := by
  have b := fun k => co_vat hg (m := 16384) (by omega) hin k
  have e : splL vs 0 0 16 = [(vat vs 0, 1), (vat vs 1, 4), (vat vs 2, 1), (vat vs 3, 0), (vat vs 4, 4), (vat vs 5, 16), (vat vs 6, 4), (vat vs 7, 0), (vat vs 8, 1), (vat vs 9, 4), (vat vs 10, 1), (vat vs 11, 0), (vat vs 12, 0), (vat vs 13, 0), (vat vs 14, 0), (vat vs 15, 0)] := by kernel_rfl
  rw [e, co_foldN hg _ Z3 (fun q hq => by
    simp only [List.mem_cons, List.not_mem_nil, or_false] at hq
    rcases hq with rfl | rfl | rfl | rfl | rfl | rfl | rfl | rfl | rfl | rfl | rfl | rfl | rfl | rfl | rfl | rfl <;> (refine ⟨?_, by simp only; omega, by simp only; omega⟩; exact ⟨Int.le_trans (by decide) (b _).1, Int.le_trans (b _).2 (by decide)⟩)) (by rw [hg.z]; simp), hg.z]
  simp only [List.map_cons, List.map_nil, List.sum_cons, List.sum_nil]
  omega
include hg hin in
theorem splb_0 : -600000 ≤ g (foldN Z3 (splL vs 0 0 16)) ∧ g (foldN Z3 (splL vs 0 0 16)) ≤ 600000 := by
  have b := fun k => co_vat hg (m := 16384) (by omega) hin k
  have b0 := b 0
  have b1 := b 1
  have b2 := b 2
  have b4 := b 4
  have b5 := b 5
  have b6 := b 6
  have b8 := b 8
  have b9 := b 9
  have b10 := b 10
  rw [spl_0 hg hin]
  omega
include hl hp hg hin in
theorem sp_0 (sk : Int) : g (((netG vs fans rs).patch sk 4).pt 0) * 36 - g (foldN Z3 (splL vs 0 0 16)) ≤ 72 ∧ g (foldN Z3 (splL vs 0 0 16)) - g (((netG vs fans rs).patch sk 4).pt 0) * 36 ≤ 72 := by
  have e : ((netG vs fans rs).patch sk 4).pt 0 = (netG vs fans rs).middle 5 := by
    rw [pt16_0]
    show (netG vs fans rs).corner 5 = _
    unfold NetD.corner
    rw [ends_5]
  rw [e, spl_0 hg hin]
  have n0 := inner_0_5 hl hp hg hin (rs := rs)
  have m0 := innb_0_5 hl hp hg hin (rs := rs)
  have n1 := inner_1_5 hl hp hg hin (rs := rs)
  have m1 := innb_1_5 hl hp hg hin (rs := rs)
  have n2 := inner_3_5 hl hp hg hin (rs := rs)
  have m2 := innb_3_5 hl hp hg hin (rs := rs)
  have n3 := inner_4_5 hl hp hg hin (rs := rs)
  have m3 := innb_4_5 hl hp hg hin (rs := rs)
  have b := fun k => co_vat hg (m := 16384) (by omega) hin k
  have b0 := b 0
  have b1 := b 1
  have b2 := b 2
  have b4 := b 4
  have b5 := b 5
  have b6 := b 6
  have b8 := b 8
  have b9 := b 9
  have b10 := b 10
  have pm := fan_5 hl hp
  have ew : WOk g ((fans.getD 5 []).map fun f => ((netG vs fans rs).inner f 5, (1 : Int))) := fun q hq => by
    obtain ⟨f, hf, rfl⟩ := List.mem_map.1 hq
    have := pm.mem_iff.1 hf
    simp only [List.mem_cons, List.not_mem_nil, or_false] at this
    rcases this with rfl | rfl | rfl | rfl <;> (simp only; omega)
  have eM : (netG vs fans rs).middle 5 = meanP ((fans.getD 5 []).length : Int) ((fans.getD 5 []).map fun f => ((netG vs fans rs).inner f 5, (1 : Int))) := rfl
  rw [eM, co_mean hg (by rw [List.length_map, pm.length_eq]; simp) ew, pm.length_eq, List.map_map, perm_sum (pm.map _)]
  simp only [List.map_cons, List.map_nil, List.sum_cons, List.sum_nil, Function.comp, List.length_cons, List.length_nil]
  generalize g ((netG vs fans rs).inner 0 5) = r0 at *
  generalize g ((netG vs fans rs).inner 1 5) = r1 at *
  generalize g ((netG vs fans rs).inner 3 5) = r2 at *
  generalize g ((netG vs fans rs).inner 4 5) = r3 at *
  rw [rnd_in (by omega)] at n0
  rw [rnd_in (by omega)] at n1
  rw [rnd_in (by omega)] at n2
  rw [rnd_in (by omega)] at n3
  rw [rnd_in (by omega)]
  omega
include hg hin in
theorem spl_1 : g (foldN Z3 (splL vs 0 1 16)) = g (vat vs 1) * 4 + g (vat vs 2) * 2 + g (vat vs 5) * 16 + g (vat vs 6) * 8 + g (vat vs 9) * 4 + g (vat vs 10) * 2 := by
  have b := fun k => co_vat hg (m := 16384) (by omega) hin k
  have e : splL vs 0 1 16 = [(vat vs 0, 0), (vat vs 1, 4), (vat vs 2, 2), (vat vs 3, 0), (vat vs 4, 0), (vat vs 5, 16), (vat vs 6, 8), (vat vs 7, 0), (vat vs 8, 0), (vat vs 9, 4), (vat vs 10, 2), (vat vs 11, 0), (vat vs 12, 0), (vat vs 13, 0), (vat vs 14, 0), (vat vs 15, 0)] := by kernel_rfl
  rw [e, co_foldN hg _ Z3 (fun q hq => by
    simp only [List.mem_cons, List.not_mem_nil, or_false] at hq
    rcases hq with rfl | rfl | rfl | rfl | rfl | rfl | rfl | rfl | rfl | rfl | rfl | rfl | rfl | rfl | rfl | rfl <;> (refine ⟨?_, by simp only; omega, by simp only; omega⟩; exact ⟨Int.le_trans (by decide) (b _).1, Int.le_trans (b _).2 (by decide)⟩)) (by rw [hg.z]; simp), hg.z]
  simp only [List.map_cons, List.map_nil, List.sum_cons, List.sum_nil]
  omega
include hg hin in
theorem splb_1 : -600000 ≤ g (foldN Z3 (splL vs 0 1 16)) ∧ g (foldN Z3 (splL vs 0 1 16)) ≤ 600000 := by
  have b := fun k => co_vat hg (m := 16384) (by omega) hin k
  have b1 := b 1
  have b2 := b 2
  have b5 := b 5
  have b6 := b 6
  have b9 := b 9
  have b10 := b 10
  rw [spl_1 hg hin]
  omega
include hl hp hg hin in
theorem sp_1 (sk : Int) : g (((netG vs fans rs).patch sk 4).pt 1) * 36 - g (foldN Z3 (splL vs 0 1 16)) ≤ 72 ∧ g (foldN Z3 (splL vs 0 1 16)) - g (((netG vs fans rs).patch sk 4).pt 1) * 36 ≤ 72 := by
  have e : ((netG vs fans rs).patch sk 4).pt 1 = meanP 2 [((netG vs fans rs).inner 4 5, 1), ((netG vs fans rs).inner 1 5, 1)] := by
    rw [pt16_1]
    kernel_rfl
  rw [e, spl_1 hg hin]
  have n0 := inner_4_5 hl hp hg hin (rs := rs)
  have m0 := innb_4_5 hl hp hg hin (rs := rs)
  have n1 := inner_1_5 hl hp hg hin (rs := rs)
  have m1 := innb_1_5 hl hp hg hin (rs := rs)
  have b := fun k => co_vat hg (m := 16384) (by omega) hin k
  have b1 := b 1
  have b2 := b 2
  have b5 := b 5
  have b6 := b 6
  have b9 := b 9
  have b10 := b 10
  rw [co_mean hg (by simp) (fun q hq => by
    simp only [List.mem_cons, List.not_mem_nil, or_false] at hq
    rcases hq with rfl | rfl <;> (simp only; omega))]
  simp only [List.map_cons, List.map_nil, List.sum_cons, List.sum_nil]
  generalize g ((netG vs fans rs).inner 4 5) = r0 at *
  generalize g ((netG vs fans rs).inner 1 5) = r1 at *
  rw [rnd_in (by omega)] at n0
  rw [rnd_in (by omega)] at n1
  rw [rnd_in (by omega)]
  omega
include hg hin in
theorem spl_2 : g (foldN Z3 (splL vs 0 2 16)) = g (vat vs 1) * 2 + g (vat vs 2) * 4 + g (vat vs 5) * 8 + g (vat vs 6) * 16 + g (vat vs 9) * 2 + g (vat vs 10) * 4 := by
  have b := fun k => co_vat hg (m := 16384) (by omega) hin k
  have e : splL vs 0 2 16 = [(vat vs 0, 0), (vat vs 1, 2), (vat vs 2, 4), (vat vs 3, 0), (vat vs 4, 0), (vat vs 5, 8), (vat vs 6, 16), (vat vs 7, 0), (vat vs 8, 0), (vat vs 9, 2), (vat vs 10, 4), (vat vs 11, 0), (vat vs 12, 0), (vat vs 13, 0), (vat vs 14, 0), (vat vs 15, 0)] := by kernel_rfl
  rw [e, co_foldN hg _ Z3 (fun q hq => by
    simp only [List.mem_cons, List.not_mem_nil, or_false] at hq
    rcases hq with rfl | rfl | rfl | rfl | rfl | rfl | rfl | rfl | rfl | rfl | rfl | rfl | rfl | rfl | rfl | rfl <;> (refine ⟨?_, by simp only; omega, by simp only; omega⟩; exact ⟨Int.le_trans (by decide) (b _).1, Int.le_trans (b _).2 (by decide)⟩)) (by rw [hg.z]; simp), hg.z]
  simp only [List.map_cons, List.map_nil, List.sum_cons, List.sum_nil]
  omega
include hg hin in
theorem splb_2 : -600000 ≤ g (foldN Z3 (splL vs 0 2 16)) ∧ g (foldN Z3 (splL vs 0 2 16)) ≤ 600000 := by
  have b := fun k => co_vat hg (m := 16384) (by omega) hin k
  have b1 := b 1
  have b2 := b 2
  have b5 := b 5
  have b6 := b 6
  have b9 := b 9
  have b10 := b 10
  rw [spl_2 hg hin]
  omega
include hl hp hg hin in
theorem sp_2 (sk : Int) : g (((netG vs fans rs).patch sk 4).pt 2) * 36 - g (foldN Z3 (splL vs 0 2 16)) ≤ 72 ∧ g (foldN Z3 (splL vs 0 2 16)) - g (((netG vs fans rs).patch sk 4).pt 2) * 36 ≤ 72 := by
  have e : ((netG vs fans rs).patch sk 4).pt 2 = meanP 2 [((netG vs fans rs).inner 4 6, 1), ((netG vs fans rs).inner 1 6, 1)] := by
    rw [pt16_2]
    kernel_rfl
  rw [e, spl_2 hg hin]
  have n0 := inner_4_6 hl hp hg hin (rs := rs)
  have m0 := innb_4_6 hl hp hg hin (rs := rs)
  have n1 := inner_1_6 hl hp hg hin (rs := rs)
  have m1 := innb_1_6 hl hp hg hin (rs := rs)
  have b := fun k => co_vat hg (m := 16384) (by omega) hin k
  have b1 := b 1
  have b2 := b 2
  have b5 := b 5
  have b6 := b 6
  have b9 := b 9
  have b10 := b 10
  rw [co_mean hg (by simp) (fun q hq => by
    simp only [List.mem_cons, List.not_mem_nil, or_false] at hq
    rcases hq with rfl | rfl <;> (simp only; omega))]
  simp only [List.map_cons, List.map_nil, List.sum_cons, List.sum_nil]
  generalize g ((netG vs fans rs).inner 4 6) = r0 at *
  generalize g ((netG vs fans rs).inner 1 6) = r1 at *
  rw [rnd_in (by omega)] at n0
  rw [rnd_in (by omega)] at n1
  rw [rnd_in (by omega)]
  omega
include hg hin in
theorem spl_3 : g (foldN Z3 (splL vs 0 3 16)) = g (vat vs 1) * 1 + g (vat vs 2) * 4 + g (vat vs 3) * 1 + g (vat vs 5) * 4 + g (vat vs 6) * 16 + g (vat vs 7) * 4 + g (vat vs 9) * 1 + g (vat vs 10) * 4 + g (vat vs 11) * 1 := by
  have b := fun k => co_vat hg (m := 16384) (by omega) hin k
  have e : splL vs 0 3 16 = [(vat vs 0, 0), (vat vs 1, 1), (vat vs 2, 4), (vat vs 3, 1), (vat vs 4, 0), (vat vs 5, 4), (vat vs 6, 16), (vat vs 7, 4), (vat vs 8, 0), (vat vs 9, 1), (vat vs 10, 4), (vat vs 11, 1), (vat vs 12, 0), (vat vs 13, 0), (vat vs 14, 0), (vat vs 15, 0)] := by kernel_rfl
  rw [e, co_foldN hg _ Z3 (fun q hq => by
    simp only [List.mem_cons, List.not_mem_nil, or_false] at hq
    rcases hq with rfl | rfl | rfl | rfl | rfl | rfl | rfl | rfl | rfl | rfl | rfl | rfl | rfl | rfl | rfl | rfl <;> (refine ⟨?_, by simp only; omega, by simp only; omega⟩; exact ⟨Int.le_trans (by decide) (b _).1, Int.le_trans (b _).2 (by decide)⟩)) (by rw [hg.z]; simp), hg.z]
  simp only [List.map_cons, List.map_nil, List.sum_cons, List.sum_nil]
  omega
include hg hin in
theorem splb_3 : -600000 ≤ g (foldN Z3 (splL vs 0 3 16)) ∧ g (foldN Z3 (splL vs 0 3 16)) ≤ 600000 := by
  have b := fun k => co_vat hg (m := 16384) (by omega) hin k
  have b1 := b 1
  have b2 := b 2
  have b3 := b 3
  have b5 := b 5
  have b6 := b 6
  have b7 := b 7
  have b9 := b 9
  have b10 := b 10
  have b11 := b 11
  rw [spl_3 hg hin]
  omega
include hl hp hg hin in
theorem sp_3 (sk : Int) : g (((netG vs fans rs).patch sk 4).pt 3) * 36 - g (foldN Z3 (splL vs 0 3 16)) ≤ 72 ∧ g (foldN Z3 (splL vs 0 3 16)) - g (((netG vs fans rs).patch sk 4).pt 3) * 36 ≤ 72 := by
  have e : ((netG vs fans rs).patch sk 4).pt 3 = (netG vs fans rs).middle 6 := by
    rw [pt16_3]
    show (netG vs fans rs).corner 6 = _
    unfold NetD.corner
    rw [ends_6]
  rw [e, spl_3 hg hin]
  have n0 := inner_1_6 hl hp hg hin (rs := rs)
  have m0 := innb_1_6 hl hp hg hin (rs := rs)
  have n1 := inner_2_6 hl hp hg hin (rs := rs)
  have m1 := innb_2_6 hl hp hg hin (rs := rs)
  have n2 := inner_4_6 hl hp hg hin (rs := rs)
  have m2 := innb_4_6 hl hp hg hin (rs := rs)
  have n3 := inner_5_6 hl hp hg hin (rs := rs)
  have m3 := innb_5_6 hl hp hg hin (rs := rs)
  have b := fun k => co_vat hg (m := 16384) (by omega) hin k
  have b1 := b 1
  have b2 := b 2
  have b3 := b 3
  have b5 := b 5
  have b6 := b 6
  have b7 := b 7
  have b9 := b 9
  have b10 := b 10
  have b11 := b 11
  have pm := fan_6 hl hp
  have ew : WOk g ((fans.getD 6 []).map fun f => ((netG vs fans rs).inner f 6, (1 : Int))) := fun q hq => by
    obtain ⟨f, hf, rfl⟩ := List.mem_map.1 hq
    have := pm.mem_iff.1 hf
    simp only [List.mem_cons, List.not_mem_nil, or_false] at this
    rcases this with rfl | rfl | rfl | rfl <;> (simp only; omega)
  have eM : (netG vs fans rs).middle 6 = meanP ((fans.getD 6 []).length : Int) ((fans.getD 6 []).map fun f => ((netG vs fans rs).inner f 6, (1 : Int))) := rfl
  rw [eM, co_mean hg (by rw [List.length_map, pm.length_eq]; simp) ew, pm.length_eq, List.map_map, perm_sum (pm.map _)]
  simp only [List.map_cons, List.map_nil, List.sum_cons, List.sum_nil, Function.comp, List.length_cons, List.length_nil]
  generalize g ((netG vs fans rs).inner 1 6) = r0 at *
  generalize g ((netG vs fans rs).inner 2 6) = r1 at *
  generalize g ((netG vs fans rs).inner 4 6) = r2 at *
  generalize g ((netG vs fans rs).inner 5 6) = r3 at *
  rw [rnd_in (by omega)] at n0
  rw [rnd_in (by omega)] at n1
  rw [rnd_in (by omega)] at n2
  rw [rnd_in (by omega)] at n3
  rw [rnd_in (by omega)]
  omega
include hg hin in
theorem spl_4 : g (foldN Z3 (splL vs 1 0 16)) = g (vat vs 4) * 4 + g (vat vs 5) * 16 + g (vat vs 6) * 4 + g (vat vs 8) * 2 + g (vat vs 9) * 8 + g (vat vs 10) * 2 := by
  have b := fun k => co_vat hg (m := 16384) (by omega) hin k
  have e : splL vs 1 0 16 = [(vat vs 0, 0), (vat vs 1, 0), (vat vs 2, 0), (vat vs 3, 0), (vat vs 4, 4), (vat vs 5, 16), (vat vs 6, 4), (vat vs 7, 0), (vat vs 8, 2), (vat vs 9, 8), (vat vs 10, 2), (vat vs 11, 0), (vat vs 12, 0), (vat vs 13, 0), (vat vs 14, 0), (vat vs 15, 0)] := by kernel_rfl
  rw [e, co_foldN hg _ Z3 (fun q hq => by
    simp only [List.mem_cons, List.not_mem_nil, or_false] at hq
    rcases hq with rfl | rfl | rfl | rfl | rfl | rfl | rfl | rfl | rfl | rfl | rfl | rfl | rfl | rfl | rfl | rfl <;> (refine ⟨?_, by simp only; omega, by simp only; omega⟩; exact ⟨Int.le_trans (by decide) (b _).1, Int.le_trans (b _).2 (by decide)⟩)) (by rw [hg.z]; simp), hg.z]
  simp only [List.map_cons, List.map_nil, List.sum_cons, List.sum_nil]
  omega
include hg hin in
theorem splb_4 : -600000 ≤ g (foldN Z3 (splL vs 1 0 16)) ∧ g (foldN Z3 (splL vs 1 0 16)) ≤ 600000 := by
  have b := fun k => co_vat hg (m := 16384) (by omega) hin k
  have b4 := b 4
  have b5 := b 5
  have b6 := b 6
  have b8 := b 8
  have b9 := b 9
  have b10 := b 10
  rw [spl_4 hg hin]
  omega
include hl hp hg hin in
theorem sp_4 (sk : Int) : g (((netG vs fans rs).patch sk 4).pt 4) * 36 - g (foldN Z3 (splL vs 1 0 16)) ≤ 72 ∧ g (foldN Z3 (splL vs 1 0 16)) - g (((netG vs fans rs).patch sk 4).pt 4) * 36 ≤ 72 := by
  have e : ((netG vs fans rs).patch sk 4).pt 4 = meanP 2 [((netG vs fans rs).inner 3 5, 1), ((netG vs fans rs).inner 4 5, 1)] := by
    rw [pt16_4]
    kernel_rfl
  rw [e, spl_4 hg hin]
  have n0 := inner_3_5 hl hp hg hin (rs := rs)
  have m0 := innb_3_5 hl hp hg hin (rs := rs)
  have n1 := inner_4_5 hl hp hg hin (rs := rs)
  have m1 := innb_4_5 hl hp hg hin (rs := rs)
  have b := fun k => co_vat hg (m := 16384) (by omega) hin k
  have b4 := b 4
  have b5 := b 5
  have b6 := b 6
  have b8 := b 8
  have b9 := b 9
  have b10 := b 10
  rw [co_mean hg (by simp) (fun q hq => by
    simp only [List.mem_cons, List.not_mem_nil, or_false] at hq
    rcases hq with rfl | rfl <;> (simp only; omega))]
  simp only [List.map_cons, List.map_nil, List.sum_cons, List.sum_nil]
  generalize g ((netG vs fans rs).inner 3 5) = r0 at *
  generalize g ((netG vs fans rs).inner 4 5) = r1 at *
  rw [rnd_in (by omega)] at n0
  rw [rnd_in (by omega)] at n1
  rw [rnd_in (by omega)]
  omega
include hg hin in
theorem spl_5 : g (foldN Z3 (splL vs 1 1 16)) = g (vat vs 5) * 16 + g (vat vs 6) * 8 + g (vat vs 9) * 8 + g (vat vs 10) * 4 := by
  have b := fun k => co_vat hg (m := 16384) (by omega) hin k
  have e : splL vs 1 1 16 = [(vat vs 0, 0), (vat vs 1, 0), (vat vs 2, 0), (vat vs 3, 0), (vat vs 4, 0), (vat vs 5, 16), (vat vs 6, 8), (vat vs 7, 0), (vat vs 8, 0), (vat vs 9, 8), (vat vs 10, 4), (vat vs 11, 0), (vat vs 12, 0), (vat vs 13, 0), (vat vs 14, 0), (vat vs 15, 0)] := by kernel_rfl
  rw [e, co_foldN hg _ Z3 (fun q hq => by
    simp only [List.mem_cons, List.not_mem_nil, or_false] at hq
    rcases hq with rfl | rfl | rfl | rfl | rfl | rfl | rfl | rfl | rfl | rfl | rfl | rfl | rfl | rfl | rfl | rfl <;> (refine ⟨?_, by simp only; omega, by simp only; omega⟩; exact ⟨Int.le_trans (by decide) (b _).1, Int.le_trans (b _).2 (by decide)⟩)) (by rw [hg.z]; simp), hg.z]
  simp only [List.map_cons, List.map_nil, List.sum_cons, List.sum_nil]
  omega
include hg hin in
theorem splb_5 : -600000 ≤ g (foldN Z3 (splL vs 1 1 16)) ∧ g (foldN Z3 (splL vs 1 1 16)) ≤ 600000 := by
  have b := fun k => co_vat hg (m := 16384) (by omega) hin k
  have b5 := b 5
  have b6 := b 6
  have b9 := b 9
  have b10 := b 10
  rw [spl_5 hg hin]
  omega
include hl hp hg hin in
theorem sp_5 (sk : Int) : g (((netG vs fans rs).patch sk 4).pt 5) * 36 - g (foldN Z3 (splL vs 1 1 16)) ≤ 72 ∧ g (foldN Z3 (splL vs 1 1 16)) - g (((netG vs fans rs).patch sk 4).pt 5) * 36 ≤ 72 := by
  have e : ((netG vs fans rs).patch sk 4).pt 5 = (netG vs fans rs).inner 4 5 := by
    rw [pt16_5]
    rfl
  rw [e, spl_5 hg hin]
  have n0 := inner_4_5 hl hp hg hin (rs := rs)
  have m0 := innb_4_5 hl hp hg hin (rs := rs)
  have b := fun k => co_vat hg (m := 16384) (by omega) hin k
  have b5 := b 5
  have b6 := b 6
  have b9 := b 9
  have b10 := b 10
  generalize g ((netG vs fans rs).inner 4 5) = r0 at *
  rw [rnd_in (by omega)] at n0
  omega
include hg hin in
theorem spl_6 : g (foldN Z3 (splL vs 1 2 16)) = g (vat vs 5) * 8 + g (vat vs 6) * 16 + g (vat vs 9) * 4 + g (vat vs 10) * 8 := by
  have b := fun k => co_vat hg (m := 16384) (by omega) hin k
  have e : splL vs 1 2 16 = [(vat vs 0, 0), (vat vs 1, 0), (vat vs 2, 0), (vat vs 3, 0), (vat vs 4, 0), (vat vs 5, 8), (vat vs 6, 16), (vat vs 7, 0), (vat vs 8, 0), (vat vs 9, 4), (vat vs 10, 8), (vat vs 11, 0), (vat vs 12, 0), (vat vs 13, 0), (vat vs 14, 0), (vat vs 15, 0)] := by kernel_rfl
  rw [e, co_foldN hg _ Z3 (fun q hq => by
    simp only [List.mem_cons, List.not_mem_nil, or_false] at hq
    rcases hq with rfl | rfl | rfl | rfl | rfl | rfl | rfl | rfl | rfl | rfl | rfl | rfl | rfl | rfl | rfl | rfl <;> (refine ⟨?_, by simp only; omega, by simp only; omega⟩; exact ⟨Int.le_trans (by decide) (b _).1, Int.le_trans (b _).2 (by decide)⟩)) (by rw [hg.z]; simp), hg.z]
  simp only [List.map_cons, List.map_nil, List.sum_cons, List.sum_nil]
  omega
include hg hin in
theorem splb_6 : -600000 ≤ g (foldN Z3 (splL vs 1 2 16)) ∧ g (foldN Z3 (splL vs 1 2 16)) ≤ 600000 := by
  have b := fun k => co_vat hg (m := 16384) (by omega) hin k
  have b5 := b 5
  have b6 := b 6
  have b9 := b 9
  have b10 := b 10
  rw [spl_6 hg hin]
  omega
include hl hp hg hin in
theorem sp_6 (sk : Int) : g (((netG vs fans rs).patch sk 4).pt 6) * 36 - g (foldN Z3 (splL vs 1 2 16)) ≤ 72 ∧ g (foldN Z3 (splL vs 1 2 16)) - g (((netG vs fans rs).patch sk 4).pt 6) * 36 ≤ 72 := by
  have e : ((netG vs fans rs).patch sk 4).pt 6 = (netG vs fans rs).inner 4 6 := by
    rw [pt16_6]
    rfl
  rw [e, spl_6 hg hin]
  have n0 := inner_4_6 hl hp hg hin (rs := rs)
  have m0 := innb_4_6 hl hp hg hin (rs := rs)
  have b := fun k => co_vat hg (m := 16384) (by omega) hin k
  have b5 := b 5
  have b6 := b 6
  have b9 := b 9
  have b10 := b 10
  generalize g ((netG vs fans rs).inner 4 6) = r0 at *
  rw [rnd_in (by omega)] at n0
  omega
include hg hin in
theorem spl_7 : g (foldN Z3 (splL vs 1 3 16)) = g (vat vs 5) * 4 + g (vat vs 6) * 16 + g (vat vs 7) * 4 + g (vat vs 9) * 2 + g (vat vs 10) * 8 + g (vat vs 11) * 2 := by
  have b := fun k => co_vat hg (m := 16384) (by omega) hin k
  have e : splL vs 1 3 16 = [(vat vs 0, 0), (vat vs 1, 0), (vat vs 2, 0), (vat vs 3, 0), (vat vs 4, 0), (vat vs 5, 4), (vat vs 6, 16), (vat vs 7, 4), (vat vs 8, 0), (vat vs 9, 2), (vat vs 10, 8), (vat vs 11, 2), (vat vs 12, 0), (vat vs 13, 0), (vat vs 14, 0), (vat vs 15, 0)] := by kernel_rfl
  rw [e, co_foldN hg _ Z3 (fun q hq => by
    simp only [List.mem_cons, List.not_mem_nil, or_false] at hq
    rcases hq with rfl | rfl | rfl | rfl | rfl | rfl | rfl | rfl | rfl | rfl | rfl | rfl | rfl | rfl | rfl | rfl <;> (refine ⟨?_, by simp only; omega, by simp only; omega⟩; exact ⟨Int.le_trans (by decide) (b _).1, Int.le_trans (b _).2 (by decide)⟩)) (by rw [hg.z]; simp), hg.z]
  simp only [List.map_cons, List.map_nil, List.sum_cons, List.sum_nil]
  omega
include hg hin in
theorem splb_7 : -600000 ≤ g (foldN Z3 (splL vs 1 3 16)) ∧ g (foldN Z3 (splL vs 1 3 16)) ≤ 600000 := by
  have b := fun k => co_vat hg (m := 16384) (by omega) hin k
  have b5 := b 5
  have b6 := b 6
  have b7 := b 7
  have b9 := b 9
  have b10 := b 10
  have b11 := b 11
  rw [spl_7 hg hin]
  omega
include hl hp hg hin in
theorem sp_7 (sk : Int) : g (((netG vs fans rs).patch sk 4).pt 7) * 36 - g (foldN Z3 (splL vs 1 3 16)) ≤ 72 ∧ g (foldN Z3 (splL vs 1 3 16)) - g (((netG vs fans rs).patch sk 4).pt 7) * 36 ≤ 72 := by
  have e : ((netG vs fans rs).patch sk 4).pt 7 = meanP 2 [((netG vs fans rs).inner 4 6, 1), ((netG vs fans rs).inner 5 6, 1)] := by
    rw [pt16_7]
    kernel_rfl
  rw [e, spl_7 hg hin]
  have n0 := inner_4_6 hl hp hg hin (rs := rs)
  have m0 := innb_4_6 hl hp hg hin (rs := rs)
  have n1 := inner_5_6 hl hp hg hin (rs := rs)
  have m1 := innb_5_6 hl hp hg hin (rs := rs)
  have b := fun k => co_vat hg (m := 16384) (by omega) hin k
  have b5 := b 5
  have b6 := b 6
  have b7 := b 7
  have b9 := b 9
  have b10 := b 10
  have b11 := b 11
  rw [co_mean hg (by simp) (fun q hq => by
    simp only [List.mem_cons, List.not_mem_nil, or_false] at hq
    rcases hq with rfl | rfl <;> (simp only; omega))]
  simp only [List.map_cons, List.map_nil, List.sum_cons, List.sum_nil]
  generalize g ((netG vs fans rs).inner 4 6) = r0 at *
  generalize g ((netG vs fans rs).inner 5 6) = r1 at *
  rw [rnd_in (by omega)] at n0
  rw [rnd_in (by omega)] at n1
  rw [rnd_in (by omega)]
  omega
include hg hin in
theorem spl_8 : g (foldN Z3 (splL vs 2 0 16)) = g (vat vs 4) * 2 + g (vat vs 5) * 8 + g (vat vs 6) * 2 + g (vat vs 8) * 4 + g (vat vs 9) * 16 + g (vat vs 10) * 4 := by
  have b := fun k => co_vat hg (m := 16384) (by omega) hin k
  have e : splL vs 2 0 16 = [(vat vs 0, 0), (vat vs 1, 0), (vat vs 2, 0), (vat vs 3, 0), (vat vs 4, 2), (vat vs 5, 8), (vat vs 6, 2), (vat vs 7, 0), (vat vs 8, 4), (vat vs 9, 16), (vat vs 10, 4), (vat vs 11, 0), (vat vs 12, 0), (vat vs 13, 0), (vat vs 14, 0), (vat vs 15, 0)] := by kernel_rfl
  rw [e, co_foldN hg _ Z3 (fun q hq => by
    simp only [List.mem_cons, List.not_mem_nil, or_false] at hq
    rcases hq with rfl | rfl | rfl | rfl | rfl | rfl | rfl | rfl | rfl | rfl | rfl | rfl | rfl | rfl | rfl | rfl <;> (refine ⟨?_, by simp only; omega, by simp only; omega⟩; exact ⟨Int.le_trans (by decide) (b _).1, Int.le_trans (b _).2 (by decide)⟩)) (by rw [hg.z]; simp), hg.z]
  simp only [List.map_cons, List.map_nil, List.sum_cons, List.sum_nil]
  omega
include hg hin in
theorem splb_8 : -600000 ≤ g (foldN Z3 (splL vs 2 0 16)) ∧ g (foldN Z3 (splL vs 2 0 16)) ≤ 600000 := by
  have b := fun k => co_vat hg (m := 16384) (by omega) hin k
  have b4 := b 4
  have b5 := b 5
  have b6 := b 6
  have b8 := b 8
  have b9 := b 9
  have b10 := b 10
  rw [spl_8 hg hin]
  omega
include hl hp hg hin in
theorem sp_8 (sk : Int) : g (((netG vs fans rs).patch sk 4).pt 8) * 36 - g (foldN Z3 (splL vs 2 0 16)) ≤ 72 ∧ g (foldN Z3 (splL vs 2 0 16)) - g (((netG vs fans rs).patch sk 4).pt 8) * 36 ≤ 72 := by
  have e : ((netG vs fans rs).patch sk 4).pt 8 = meanP 2 [((netG vs fans rs).inner 3 9, 1), ((netG vs fans rs).inner 4 9, 1)] := by
    rw [pt16_8]
    kernel_rfl
  rw [e, spl_8 hg hin]
  have n0 := inner_3_9 hl hp hg hin (rs := rs)
  have m0 := innb_3_9 hl hp hg hin (rs := rs)
  have n1 := inner_4_9 hl hp hg hin (rs := rs)
  have m1 := innb_4_9 hl hp hg hin (rs := rs)
  have b := fun k => co_vat hg (m := 16384) (by omega) hin k
  have b4 := b 4
  have b5 := b 5
  have b6 := b 6
  have b8 := b 8
  have b9 := b 9
  have b10 := b 10
  rw [co_mean hg (by simp) (fun q hq => by
    simp only [List.mem_cons, List.not_mem_nil, or_false] at hq
    rcases hq with rfl | rfl <;> (simp only; omega))]
  simp only [List.map_cons, List.map_nil, List.sum_cons, List.sum_nil]
  generalize g ((netG vs fans rs).inner 3 9) = r0 at *
  generalize g ((netG vs fans rs).inner 4 9) = r1 at *
  rw [rnd_in (by omega)] at n0
  rw [rnd_in (by omega)] at n1
  rw [rnd_in (by omega)]
  omega
include hg hin in
theorem spl_9 : g (foldN Z3 (splL vs 2 1 16)) = g (vat vs 5) * 8 + g (vat vs 6) * 4 + g (vat vs 9) * 16 + g (vat vs 10) * 8 := by
  have b := fun k => co_vat hg (m := 16384) (by omega) hin k
  have e : splL vs 2 1 16 = [(vat vs 0, 0), (vat vs 1, 0), (vat vs 2, 0), (vat vs 3, 0), (vat vs 4, 0), (vat vs 5, 8), (vat vs 6, 4), (vat vs 7, 0), (vat vs 8, 0), (vat vs 9, 16), (vat vs 10, 8), (vat vs 11, 0), (vat vs 12, 0), (vat vs 13, 0), (vat vs 14, 0), (vat vs 15, 0)] := by kernel_rfl
  rw [e, co_foldN hg _ Z3 (fun q hq => by
    simp only [List.mem_cons, List.not_mem_nil, or_false] at hq
    rcases hq with rfl | rfl | rfl | rfl | rfl | rfl | rfl | rfl | rfl | rfl | rfl | rfl | rfl | rfl | rfl | rfl <;> (refine ⟨?_, by simp only; omega, by simp only; omega⟩; exact ⟨Int.le_trans (by decide) (b _).1, Int.le_trans (b _).2 (by decide)⟩)) (by rw [hg.z]; simp), hg.z]
  simp only [List.map_cons, List.map_nil, List.sum_cons, List.sum_nil]
  omega
include hg hin in
theorem splb_9 : -600000 ≤ g (foldN Z3 (splL vs 2 1 16)) ∧ g (foldN Z3 (splL vs 2 1 16)) ≤ 600000 := by
  have b := fun k => co_vat hg (m := 16384) (by omega) hin k
  have b5 := b 5
  have b6 := b 6
  have b9 := b 9
  have b10 := b 10
  rw [spl_9 hg hin]
  omega
include hl hp hg hin in
theorem sp_9 (sk : Int) : g (((netG vs fans rs).patch sk 4).pt 9) * 36 - g (foldN Z3 (splL vs 2 1 16)) ≤ 72 ∧ g (foldN Z3 (splL vs 2 1 16)) - g (((netG vs fans rs).patch sk 4).pt 9) * 36 ≤ 72 := by
  have e : ((netG vs fans rs).patch sk 4).pt 9 = (netG vs fans rs).inner 4 9 := by
    rw [pt16_9]
    rfl
  rw [e, spl_9 hg hin]
  have n0 := inner_4_9 hl hp hg hin (rs := rs)
  have m0 := innb_4_9 hl hp hg hin (rs := rs)
  have b := fun k => co_vat hg (m := 16384) (by omega) hin k
  have b5 := b 5
  have b6 := b 6
  have b9 := b 9
  have b10 := b 10
  generalize g ((netG vs fans rs).inner 4 9) = r0 at *
  rw [rnd_in (by omega)] at n0
  omega
include hg hin in
theorem spl_10 : g (foldN Z3 (splL vs 2 2 16)) = g (vat vs 5) * 4 + g (vat vs 6) * 8 + g (vat vs 9) * 8 + g (vat vs 10) * 16 := by
  have b := fun k => co_vat hg (m := 16384) (by omega) hin k
  have e : splL vs 2 2 16 = [(vat vs 0, 0), (vat vs 1, 0), (vat vs 2, 0), (vat vs 3, 0), (vat vs 4, 0), (vat vs 5, 4), (vat vs 6, 8), (vat vs 7, 0), (vat vs 8, 0), (vat vs 9, 8), (vat vs 10, 16), (vat vs 11, 0), (vat vs 12, 0), (vat vs 13, 0), (vat vs 14, 0), (vat vs 15, 0)] := by kernel_rfl
  rw [e, co_foldN hg _ Z3 (fun q hq => by
    simp only [List.mem_cons, List.not_mem_nil, or_false] at hq
    rcases hq with rfl | rfl | rfl | rfl | rfl | rfl | rfl | rfl | rfl | rfl | rfl | rfl | rfl | rfl | rfl | rfl <;> (refine ⟨?_, by simp only; omega, by simp only; omega⟩; exact ⟨Int.le_trans (by decide) (b _).1, Int.le_trans (b _).2 (by decide)⟩)) (by rw [hg.z]; simp), hg.z]
  simp only [List.map_cons, List.map_nil, List.sum_cons, List.sum_nil]
  omega
include hg hin in
theorem splb_10 : -600000 ≤ g (foldN Z3 (splL vs 2 2 16)) ∧ g (foldN Z3 (splL vs 2 2 16)) ≤ 600000 := by
  have b := fun k => co_vat hg (m := 16384) (by omega) hin k
  have b5 := b 5
  have b6 := b 6
  have b9 := b 9
  have b10 := b 10
  rw [spl_10 hg hin]
  omega
include hl hp hg hin in
theorem sp_10 (sk : Int) : g (((netG vs fans rs).patch sk 4).pt 10) * 36 - g (foldN Z3 (splL vs 2 2 16)) ≤ 72 ∧ g (foldN Z3 (splL vs 2 2 16)) - g (((netG vs fans rs).patch sk 4).pt 10) * 36 ≤ 72 := by
  have e : ((netG vs fans rs).patch sk 4).pt 10 = (netG vs fans rs).inner 4 10 := by
    rw [pt16_10]
    rfl
  rw [e, spl_10 hg hin]
  have n0 := inner_4_10 hl hp hg hin (rs := rs)
  have m0 := innb_4_10 hl hp hg hin (rs := rs)
  have b := fun k => co_vat hg (m := 16384) (by omega) hin k
  have b5 := b 5
  have b6 := b 6
  have b9 := b 9
  have b10 := b 10
  generalize g ((netG vs fans rs).inner 4 10) = r0 at *
  rw [rnd_in (by omega)] at n0
  omega
include hg hin in
theorem spl_11 : g (foldN Z3 (splL vs 2 3 16)) = g (vat vs 5) * 2 + g (vat vs 6) * 8 + g (vat vs 7) * 2 + g (vat vs 9) * 4 + g (vat vs 10) * 16 + g (vat vs 11) * 4 := by
  have b := fun k => co_vat hg (m := 16384) (by omega) hin k
  have e : splL vs 2 3 16 = [(vat vs 0, 0), (vat vs 1, 0), (vat vs 2, 0), (vat vs 3, 0), (vat vs 4, 0), (vat vs 5, 2), (vat vs 6, 8), (vat vs 7, 2), (vat vs 8, 0), (vat vs 9, 4), (vat vs 10, 16), (vat vs 11, 4), (vat vs 12, 0), (vat vs 13, 0), (vat vs 14, 0), (vat vs 15, 0)] := by kernel_rfl
  rw [e, co_foldN hg _ Z3 (fun q hq => by
    simp only [List.mem_cons, List.not_mem_nil, or_false] at hq
    rcases hq with rfl | rfl | rfl | rfl | rfl | rfl | rfl | rfl | rfl | rfl | rfl | rfl | rfl | rfl | rfl | rfl <;> (refine ⟨?_, by simp only; omega, by simp only; omega⟩; exact ⟨Int.le_trans (by decide) (b _).1, Int.le_trans (b _).2 (by decide)⟩)) (by rw [hg.z]; simp), hg.z]
  simp only [List.map_cons, List.map_nil, List.sum_cons, List.sum_nil]
  omega
include hg hin in
theorem splb_11 : -600000 ≤ g (foldN Z3 (splL vs 2 3 16)) ∧ g (foldN Z3 (splL vs 2 3 16)) ≤ 600000 := by
  have b := fun k => co_vat hg (m := 16384) (by omega) hin k
  have b5 := b 5
  have b6 := b 6
  have b7 := b 7
  have b9 := b 9
  have b10 := b 10
  have b11 := b 11
  rw [spl_11 hg hin]
  omega
include hl hp hg hin in
theorem sp_11 (sk : Int) : g (((netG vs fans rs).patch sk 4).pt 11) * 36 - g (foldN Z3 (splL vs 2 3 16)) ≤ 72 ∧ g (foldN Z3 (splL vs 2 3 16)) - g (((netG vs fans rs).patch sk 4).pt 11) * 36 ≤ 72 := by
  have e : ((netG vs fans rs).patch sk 4).pt 11 = meanP 2 [((netG vs fans rs).inner 4 10, 1), ((netG vs fans rs).inner 5 10, 1)] := by
    rw [pt16_11]
    kernel_rfl
  rw [e, spl_11 hg hin]
  have n0 := inner_4_10 hl hp hg hin (rs := rs)
  have m0 := innb_4_10 hl hp hg hin (rs := rs)
  have n1 := inner_5_10 hl hp hg hin (rs := rs)
  have m1 := innb_5_10 hl hp hg hin (rs := rs)
  have b := fun k => co_vat hg (m := 16384) (by omega) hin k
  have b5 := b 5
  have b6 := b 6
  have b7 := b 7
  have b9 := b 9
  have b10 := b 10
  have b11 := b 11
  rw [co_mean hg (by simp) (fun q hq => by
    simp only [List.mem_cons, List.not_mem_nil, or_false] at hq
    rcases hq with rfl | rfl <;> (simp only; omega))]
  simp only [List.map_cons, List.map_nil, List.sum_cons, List.sum_nil]
  generalize g ((netG vs fans rs).inner 4 10) = r0 at *
  generalize g ((netG vs fans rs).inner 5 10) = r1 at *
  rw [rnd_in (by omega)] at n0
  rw [rnd_in (by omega)] at n1
  rw [rnd_in (by omega)]
  omega
include hg hin in
theorem spl_12 : g (foldN Z3 (splL vs 3 0 16)) = g (vat vs 4) * 1 + g (vat vs 5) * 4 + g (vat vs 6) * 1 + g (vat vs 8) * 4 + g (vat vs 9) * 16 + g (vat vs 10) * 4 + g (vat vs 12) * 1 + g (vat vs 13) * 4 + g (vat vs 14) * 1 := by
  have b := fun k => co_vat hg (m := 16384) (by omega) hin k
  have e : splL vs 3 0 16 = [(vat vs 0, 0), (vat vs 1, 0), (vat vs 2, 0), (vat vs 3, 0), (vat vs 4, 1), (vat vs 5, 4), (vat vs 6, 1), (vat vs 7, 0), (vat vs 8, 4), (vat vs 9, 16), (vat vs 10, 4), (vat vs 11, 0), (vat vs 12, 1), (vat vs 13, 4), (vat vs 14, 1), (vat vs 15, 0)] := by kernel_rfl
  rw [e, co_foldN hg _ Z3 (fun q hq => by
    simp only [List.mem_cons, List.not_mem_nil, or_false] at hq
    rcases hq with rfl | rfl | rfl | rfl | rfl | rfl | rfl | rfl | rfl | rfl | rfl | rfl | rfl | rfl | rfl | rfl <;> (refine ⟨?_, by simp only; omega, by simp only; omega⟩; exact ⟨Int.le_trans (by decide) (b _).1, Int.le_trans (b _).2 (by decide)⟩)) (by rw [hg.z]; simp), hg.z]
  simp only [List.map_cons, List.map_nil, List.sum_cons, List.sum_nil]
  omega
include hg hin in
theorem splb_12 : -600000 ≤ g (foldN Z3 (splL vs 3 0 16)) ∧ g (foldN Z3 (splL vs 3 0 16)) ≤ 600000 := by
  have b := fun k => co_vat hg (m := 16384) (by omega) hin k
  have b4 := b 4
  have b5 := b 5
  have b6 := b 6
  have b8 := b 8
  have b9 := b 9
  have b10 := b 10
  have b12 := b 12
  have b13 := b 13
  have b14 := b 14
  rw [spl_12 hg hin]
  omega
include hl hp hg hin in
theorem sp_12 (sk : Int) : g (((netG vs fans rs).patch sk 4).pt 12) * 36 - g (foldN Z3 (splL vs 3 0 16)) ≤ 72 ∧ g (foldN Z3 (splL vs 3 0 16)) - g (((netG vs fans rs).patch sk 4).pt 12) * 36 ≤ 72 := by
  have e : ((netG vs fans rs).patch sk 4).pt 12 = (netG vs fans rs).middle 9 := by
    rw [pt16_12]
    show (netG vs fans rs).corner 9 = _
    unfold NetD.corner
    rw [ends_9]
  rw [e, spl_12 hg hin]
  have n0 := inner_3_9 hl hp hg hin (rs := rs)
  have m0 := innb_3_9 hl hp hg hin (rs := rs)
  have n1 := inner_4_9 hl hp hg hin (rs := rs)
  have m1 := innb_4_9 hl hp hg hin (rs := rs)
  have n2 := inner_6_9 hl hp hg hin (rs := rs)
  have m2 := innb_6_9 hl hp hg hin (rs := rs)
  have n3 := inner_7_9 hl hp hg hin (rs := rs)
  have m3 := innb_7_9 hl hp hg hin (rs := rs)
  have b := fun k => co_vat hg (m := 16384) (by omega) hin k
  have b4 := b 4
  have b5 := b 5
  have b6 := b 6
  have b8 := b 8
  have b9 := b 9
  have b10 := b 10
  have b12 := b 12
  have b13 := b 13
  have b14 := b 14
  have pm := fan_9 hl hp
  have ew : WOk g ((fans.getD 9 []).map fun f => ((netG vs fans rs).inner f 9, (1 : Int))) := fun q hq => by
    obtain ⟨f, hf, rfl⟩ := List.mem_map.1 hq
    have := pm.mem_iff.1 hf
    simp only [List.mem_cons, List.not_mem_nil, or_false] at this
    rcases this with rfl | rfl | rfl | rfl <;> (simp only; omega)
  have eM : (netG vs fans rs).middle 9 = meanP ((fans.getD 9 []).length : Int) ((fans.getD 9 []).map fun f => ((netG vs fans rs).inner f 9, (1 : Int))) := rfl
  rw [eM, co_mean hg (by rw [List.length_map, pm.length_eq]; simp) ew, pm.length_eq, List.map_map, perm_sum (pm.map _)]
  simp only [List.map_cons, List.map_nil, List.sum_cons, List.sum_nil, Function.comp, List.length_cons, List.length_nil]
  generalize g ((netG vs fans rs).inner 3 9) = r0 at *
  generalize g ((netG vs fans rs).inner 4 9) = r1 at *
  generalize g ((netG vs fans rs).inner 6 9) = r2 at *
  generalize g ((netG vs fans rs).inner 7 9) = r3 at *
  rw [rnd_in (by omega)] at n0
  rw [rnd_in (by omega)] at n1
  rw [rnd_in (by omega)] at n2
  rw [rnd_in (by omega)] at n3
  rw [rnd_in (by omega)]
  omega
include hg hin in
theorem spl_13 : g (foldN Z3 (splL vs 3 1 16)) = g (vat vs 5) * 4 + g (vat vs 6) * 2 + g (vat vs 9) * 16 + g (vat vs 10) * 8 + g (vat vs 13) * 4 + g (vat vs 14) * 2 := by
  have b := fun k => co_vat hg (m := 16384) (by omega) hin k
  have e : splL vs 3 1 16 = [(vat vs 0, 0), (vat vs 1, 0), (vat vs 2, 0), (vat vs 3, 0), (vat vs 4, 0), (vat vs 5, 4), (vat vs 6, 2), (vat vs 7, 0), (vat vs 8, 0), (vat vs 9, 16), (vat vs 10, 8), (vat vs 11, 0), (vat vs 12, 0), (vat vs 13, 4), (vat vs 14, 2), (vat vs 15, 0)] := by kernel_rfl
  rw [e, co_foldN hg _ Z3 (fun q hq => by
    simp only [List.mem_cons, List.not_mem_nil, or_false] at hq
    rcases hq with rfl | rfl | rfl | rfl | rfl | rfl | rfl | rfl | rfl | rfl | rfl | rfl | rfl | rfl | rfl | rfl <;> (refine ⟨?_, by simp only; omega, by simp only; omega⟩; exact ⟨Int.le_trans (by decide) (b _).1, Int.le_trans (b _).2 (by decide)⟩)) (by rw [hg.z]; simp), hg.z]
  simp only [List.map_cons, List.map_nil, List.sum_cons, List.sum_nil]
  omega
include hg hin in
theorem splb_13 : -600000 ≤ g (foldN Z3 (splL vs 3 1 16)) ∧ g (foldN Z3 (splL vs 3 1 16)) ≤ 600000 := by
  have b := fun k => co_vat hg (m := 16384) (by omega) hin k
  have b5 := b 5
  have b6 := b 6
  have b9 := b 9
  have b10 := b 10
  have b13 := b 13
  have b14 := b 14
  rw [spl_13 hg hin]
  omega
include hl hp hg hin in
theorem sp_13 (sk : Int) : g (((netG vs fans rs).patch sk 4).pt 13) * 36 - g (foldN Z3 (splL vs 3 1 16)) ≤ 72 ∧ g (foldN Z3 (splL vs 3 1 16)) - g (((netG vs fans rs).patch sk 4).pt 13) * 36 ≤ 72 := by
  have e : ((netG vs fans rs).patch sk 4).pt 13 = meanP 2 [((netG vs fans rs).inner 7 9, 1), ((netG vs fans rs).inner 4 9, 1)] := by
    rw [pt16_13]
    kernel_rfl
  rw [e, spl_13 hg hin]
  have n0 := inner_7_9 hl hp hg hin (rs := rs)
  have m0 := innb_7_9 hl hp hg hin (rs := rs)
  have n1 := inner_4_9 hl hp hg hin (rs := rs)
  have m1 := innb_4_9 hl hp hg hin (rs := rs)
  have b := fun k => co_vat hg (m := 16384) (by omega) hin k
  have b5 := b 5
  have b6 := b 6
  have b9 := b 9
  have b10 := b 10
  have b13 := b 13
  have b14 := b 14
  rw [co_mean hg (by simp) (fun q hq => by
    simp only [List.mem_cons, List.not_mem_nil, or_false] at hq
    rcases hq with rfl | rfl <;> (simp only; omega))]
  simp only [List.map_cons, List.map_nil, List.sum_cons, List.sum_nil]
  generalize g ((netG vs fans rs).inner 7 9) = r0 at *
  generalize g ((netG vs fans rs).inner 4 9) = r1 at *
  rw [rnd_in (by omega)] at n0
  rw [rnd_in (by omega)] at n1
  rw [rnd_in (by omega)]
  omega
include hg hin in
theorem spl_14 : g (foldN Z3 (splL vs 3 2 16)) = g (vat vs 5) * 2 + g (vat vs 6) * 4 + g (vat vs 9) * 8 + g (vat vs 10) * 16 + g (vat vs 13) * 2 + g (vat vs 14) * 4 := by
  have b := fun k => co_vat hg (m := 16384) (by omega) hin k
  have e : splL vs 3 2 16 = [(vat vs 0, 0), (vat vs 1, 0), (vat vs 2, 0), (vat vs 3, 0), (vat vs 4, 0), (vat vs 5, 2), (vat vs 6, 4), (vat vs 7, 0), (vat vs 8, 0), (vat vs 9, 8), (vat vs 10, 16), (vat vs 11, 0), (vat vs 12, 0), (vat vs 13, 2), (vat vs 14, 4), (vat vs 15, 0)] := by kernel_rfl
  rw [e, co_foldN hg _ Z3 (fun q hq => by
    simp only [List.mem_cons, List.not_mem_nil, or_false] at hq
    rcases hq with rfl | rfl | rfl | rfl | rfl | rfl | rfl | rfl | rfl | rfl | rfl | rfl | rfl | rfl | rfl | rfl <;> (refine ⟨?_, by simp only; omega, by simp only; omega⟩; exact ⟨Int.le_trans (by decide) (b _).1, Int.le_trans (b _).2 (by decide)⟩)) (by rw [hg.z]; simp), hg.z]
  simp only [List.map_cons, List.map_nil, List.sum_cons, List.sum_nil]
  omega
include hg hin in
theorem splb_14 : -600000 ≤ g (foldN Z3 (splL vs 3 2 16)) ∧ g (foldN Z3 (splL vs 3 2 16)) ≤ 600000 := by
  have b := fun k => co_vat hg (m := 16384) (by omega) hin k
  have b5 := b 5
  have b6 := b 6
  have b9 := b 9
  have b10 := b 10
  have b13 := b 13
  have b14 := b 14
  rw [spl_14 hg hin]
  omega
include hl hp hg hin in
theorem sp_14 (sk : Int) : g (((netG vs fans rs).patch sk 4).pt 14) * 36 - g (foldN Z3 (splL vs 3 2 16)) ≤ 72 ∧ g (foldN Z3 (splL vs 3 2 16)) - g (((netG vs fans rs).patch sk 4).pt 14) * 36 ≤ 72 := by
  have e : ((netG vs fans rs).patch sk 4).pt 14 = meanP 2 [((netG vs fans rs).inner 7 10, 1), ((netG vs fans rs).inner 4 10, 1)] := by
    rw [pt16_14]
    kernel_rfl
  rw [e, spl_14 hg hin]
  have n0 := inner_7_10 hl hp hg hin (rs := rs)
  have m0 := innb_7_10 hl hp hg hin (rs := rs)
  have n1 := inner_4_10 hl hp hg hin (rs := rs)
  have m1 := innb_4_10 hl hp hg hin (rs := rs)
  have b := fun k => co_vat hg (m := 16384) (by omega) hin k
  have b5 := b 5
  have b6 := b 6
  have b9 := b 9
  have b10 := b 10
  have b13 := b 13
  have b14 := b 14
  rw [co_mean hg (by simp) (fun q hq => by
    simp only [List.mem_cons, List.not_mem_nil, or_false] at hq
    rcases hq with rfl | rfl <;> (simp only; omega))]
  simp only [List.map_cons, List.map_nil, List.sum_cons, List.sum_nil]
  generalize g ((netG vs fans rs).inner 7 10) = r0 at *
  generalize g ((netG vs fans rs).inner 4 10) = r1 at *
  rw [rnd_in (by omega)] at n0
  rw [rnd_in (by omega)] at n1
  rw [rnd_in (by omega)]
  omega
include hg hin in
theorem spl_15 : g (foldN Z3 (splL vs 3 3 16)) = g (vat vs 5) * 1 + g (vat vs 6) * 4 + g (vat vs 7) * 1 + g (vat vs 9) * 4 + g (vat vs 10) * 16 + g (vat vs 11) * 4 + g (vat vs 13) * 1 + g (vat vs 14) * 4 + g (vat vs 15) * 1 := by
  have b := fun k => co_vat hg (m := 16384) (by omega) hin k
  have e : splL vs 3 3 16 = [(vat vs 0, 0), (vat vs 1, 0), (vat vs 2, 0), (vat vs 3, 0), (vat vs 4, 0), (vat vs 5, 1), (vat vs 6, 4), (vat vs 7, 1), (vat vs 8, 0), (vat vs 9, 4), (vat vs 10, 16), (vat vs 11, 4), (vat vs 12, 0), (vat vs 13, 1), (vat vs 14, 4), (vat vs 15, 1)] := by kernel_rfl
  rw [e, co_foldN hg _ Z3 (fun q hq => by
    simp only [List.mem_cons, List.not_mem_nil, or_false] at hq
    rcases hq with rfl | rfl | rfl | rfl | rfl | rfl | rfl | rfl | rfl | rfl | rfl | rfl | rfl | rfl | rfl | rfl <;> (refine ⟨?_, by simp only; omega, by simp only; omega⟩; exact ⟨Int.le_trans (by decide) (b _).1, Int.le_trans (b _).2 (by decide)⟩)) (by rw [hg.z]; simp), hg.z]
  simp only [List.map_cons, List.map_nil, List.sum_cons, List.sum_nil]
  omega
include hg hin in
theorem splb_15 : -600000 ≤ g (foldN Z3 (splL vs 3 3 16)) ∧ g (foldN Z3 (splL vs 3 3 16)) ≤ 600000 := by
  have b := fun k => co_vat hg (m := 16384) (by omega) hin k
  have b5 := b 5
  have b6 := b 6
  have b7 := b 7
  have b9 := b 9
  have b10 := b 10
  have b11 := b 11
  have b13 := b 13
  have b14 := b 14
  have b15 := b 15
  rw [spl_15 hg hin]
  omega
include hl hp hg hin in
theorem sp_15 (sk : Int) : g (((netG vs fans rs).patch sk 4).pt 15) * 36 - g (foldN Z3 (splL vs 3 3 16)) ≤ 72 ∧ g (foldN Z3 (splL vs 3 3 16)) - g (((netG vs fans rs).patch sk 4).pt 15) * 36 ≤ 72 := by
  have e : ((netG vs fans rs).patch sk 4).pt 15 = (netG vs fans rs).middle 10 := by
    rw [pt16_15]
    show (netG vs fans rs).corner 10 = _
    unfold NetD.corner
    rw [ends_10]
  rw [e, spl_15 hg hin]
  have n0 := inner_4_10 hl hp hg hin (rs := rs)
  have m0 := innb_4_10 hl hp hg hin (rs := rs)
  have n1 := inner_5_10 hl hp hg hin (rs := rs)
  have m1 := innb_5_10 hl hp hg hin (rs := rs)
  have n2 := inner_7_10 hl hp hg hin (rs := rs)
  have m2 := innb_7_10 hl hp hg hin (rs := rs)
  have n3 := inner_8_10 hl hp hg hin (rs := rs)
  have m3 := innb_8_10 hl hp hg hin (rs := rs)
  have b := fun k => co_vat hg (m := 16384) (by omega) hin k
  have b5 := b 5
  have b6 := b 6
  have b7 := b 7
  have b9 := b 9
  have b10 := b 10
  have b11 := b 11
  have b13 := b 13
  have b14 := b 14
  have b15 := b 15
  have pm := fan_10 hl hp
  have ew : WOk g ((fans.getD 10 []).map fun f => ((netG vs fans rs).inner f 10, (1 : Int))) := fun q hq => by
    obtain ⟨f, hf, rfl⟩ := List.mem_map.1 hq
    have := pm.mem_iff.1 hf
    simp only [List.mem_cons, List.not_mem_nil, or_false] at this
    rcases this with rfl | rfl | rfl | rfl <;> (simp only; omega)
  have eM : (netG vs fans rs).middle 10 = meanP ((fans.getD 10 []).length : Int) ((fans.getD 10 []).map fun f => ((netG vs fans rs).inner f 10, (1 : Int))) := rfl
  rw [eM, co_mean hg (by rw [List.length_map, pm.length_eq]; simp) ew, pm.length_eq, List.map_map, perm_sum (pm.map _)]
  simp only [List.map_cons, List.map_nil, List.sum_cons, List.sum_nil, Function.comp, List.length_cons, List.length_nil]
  generalize g ((netG vs fans rs).inner 4 10) = r0 at *
  generalize g ((netG vs fans rs).inner 5 10) = r1 at *
  generalize g ((netG vs fans rs).inner 7 10) = r2 at *
  generalize g ((netG vs fans rs).inner 8 10) = r3 at *
  rw [rnd_in (by omega)] at n0
  rw [rnd_in (by omega)] at n1
  rw [rnd_in (by omega)] at n2
  rw [rnd_in (by omega)] at n3
  rw [rnd_in (by omega)]
  omega
include hl hp hg hin in
theorem sp_all {j i : Nat} (hj : j < 4) (hi : i < 4) (sk : Int) : (g (((netG vs fans rs).patch sk 4).pt (4 * j + i)) * 36 - g (foldN Z3 (splL vs j i 16)) ≤ 72 ∧ g (foldN Z3 (splL vs j i 16)) - g (((netG vs fans rs).patch sk 4).pt (4 * j + i)) * 36 ≤ 72) ∧ -600000 ≤ g (foldN Z3 (splL vs j i 16)) ∧ g (foldN Z3 (splL vs j i 16)) ≤ 600000 := by
  rcases (by omega : j = 0 ∨ j = 1 ∨ j = 2 ∨ j = 3) with rfl | rfl | rfl | rfl
  · rcases (by omega : i = 0 ∨ i = 1 ∨ i = 2 ∨ i = 3) with rfl | rfl | rfl | rfl
    · exact ⟨sp_0 hl hp hg hin sk, splb_0 hg hin⟩
    · exact ⟨sp_1 hl hp hg hin sk, splb_1 hg hin⟩
    · exact ⟨sp_2 hl hp hg hin sk, splb_2 hg hin⟩
    · exact ⟨sp_3 hl hp hg hin sk, splb_3 hg hin⟩
  · rcases (by omega : i = 0 ∨ i = 1 ∨ i = 2 ∨ i = 3) with rfl | rfl | rfl | rfl
    · exact ⟨sp_4 hl hp hg hin sk, splb_4 hg hin⟩
    · exact ⟨sp_5 hl hp hg hin sk, splb_5 hg hin⟩
    · exact ⟨sp_6 hl hp hg hin sk, splb_6 hg hin⟩
    · exact ⟨sp_7 hl hp hg hin sk, splb_7 hg hin⟩
  · rcases (by omega : i = 0 ∨ i = 1 ∨ i = 2 ∨ i = 3) with rfl | rfl | rfl | rfl
    · exact ⟨sp_8 hl hp hg hin sk, splb_8 hg hin⟩
    · exact ⟨sp_9 hl hp hg hin sk, splb_9 hg hin⟩
    · exact ⟨sp_10 hl hp hg hin sk, splb_10 hg hin⟩
    · exact ⟨sp_11 hl hp hg hin sk, splb_11 hg hin⟩
  · rcases (by omega : i = 0 ∨ i = 1 ∨ i = 2 ∨ i = 3) with rfl | rfl | rfl | rfl
    · exact ⟨sp_12 hl hp hg hin sk, splb_12 hg hin⟩
    · exact ⟨sp_13 hl hp hg hin sk, splb_13 hg hin⟩
    · exact ⟨sp_14 hl hp hg hin sk, splb_14 hg hin⟩
    · exact ⟨sp_15 hl hp hg hin sk, splb_15 hg hin⟩
end
end Go.Proofs.Ytpdnaceggpdleab
