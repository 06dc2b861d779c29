/- Package patch, pure: a cage that is moved comes to the same patches, moved. -/
import Derived.Test.YtpdnaceggpdleabC14
import Derived.Test.YtpdnaceggpdleabC18
namespace Go.Proofs.Ytpdnaceggpdleab
open Go.RowKit
set_option linter.unusedVariables false
set_option linter.unusedSimpArgs false
set_option linter.unusedSectionVars false
theorem cases16 {u : Nat} (h : u < 16) : u = 0 ∨ u = 1 ∨ u = 2 ∨ u = 3 ∨ u = 4 ∨ u = 5 ∨ u = 6 ∨ u = 7 ∨ u = 8 ∨ u = 9 ∨ u = 10 ∨ u = 11 ∨ u = 12 ∨ u = 13 ∨ u = 14 ∨ u = 15 := by omega
theorem pt16_0 (N : NetD) (sk : Int) (f : Nat) : (N.patch sk f).pt 0 = N.corner ((N.fs.getD f []).getD 0 0) := rfl
theorem pt16_1 (N : NetD) (sk : Int) (f : Nat) : (N.patch sk f).pt 1 = N.near ((N.fs.getD f []).getD 0 0) ((N.fs.getD f []).getD 1 0) := rfl
theorem pt16_2 (N : NetD) (sk : Int) (f : Nat) : (N.patch sk f).pt 2 = N.near ((N.fs.getD f []).getD 1 0) ((N.fs.getD f []).getD 0 0) := rfl
theorem pt16_3 (N : NetD) (sk : Int) (f : Nat) : (N.patch sk f).pt 3 = N.corner ((N.fs.getD f []).getD 1 0) := rfl
theorem pt16_4 (N : NetD) (sk : Int) (f : Nat) : (N.patch sk f).pt 4 = N.near ((N.fs.getD f []).getD 0 0) ((N.fs.getD f []).getD 3 0) := rfl
theorem pt16_5 (N : NetD) (sk : Int) (f : Nat) : (N.patch sk f).pt 5 = N.inner (f : Int) ((N.fs.getD f []).getD 0 0) := rfl
theorem pt16_6 (N : NetD) (sk : Int) (f : Nat) : (N.patch sk f).pt 6 = N.inner (f : Int) ((N.fs.getD f []).getD 1 0) := rfl
theorem pt16_7 (N : NetD) (sk : Int) (f : Nat) : (N.patch sk f).pt 7 = N.near ((N.fs.getD f []).getD 1 0) ((N.fs.getD f []).getD 2 0) := rfl
theorem pt16_8 (N : NetD) (sk : Int) (f : Nat) : (N.patch sk f).pt 8 = N.near ((N.fs.getD f []).getD 3 0) ((N.fs.getD f []).getD 0 0) := rfl
theorem pt16_9 (N : NetD) (sk : Int) (f : Nat) : (N.patch sk f).pt 9 = N.inner (f : Int) ((N.fs.getD f []).getD 3 0) := rfl
theorem pt16_10 (N : NetD) (sk : Int) (f : Nat) : (N.patch sk f).pt 10 = N.inner (f : Int) ((N.fs.getD f []).getD 2 0) := rfl
theorem pt16_11 (N : NetD) (sk : Int) (f : Nat) : (N.patch sk f).pt 11 = N.near ((N.fs.getD f []).getD 2 0) ((N.fs.getD f []).getD 1 0) := rfl
theorem pt16_12 (N : NetD) (sk : Int) (f : Nat) : (N.patch sk f).pt 12 = N.corner ((N.fs.getD f []).getD 3 0) := rfl
theorem pt16_13 (N : NetD) (sk : Int) (f : Nat) : (N.patch sk f).pt 13 = N.near ((N.fs.getD f []).getD 3 0) ((N.fs.getD f []).getD 2 0) := rfl
theorem pt16_14 (N : NetD) (sk : Int) (f : Nat) : (N.patch sk f).pt 14 = N.near ((N.fs.getD f []).getD 2 0) ((N.fs.getD f []).getD 3 0) := rfl
theorem pt16_15 (N : NetD) (sk : Int) (f : Nat) : (N.patch sk f).pt 15 = N.corner ((N.fs.getD f []).getD 2 0) := rfl
theorem patch_co (N : NetD) (sk : Int) (f : Nat) : (N.patch sk f).co = N.fs.getD f [] := rfl
theorem patch_sk (N : NetD) (sk : Int) (f : Nat) : (N.patch sk f).sk = sk := rfl
theorem nm4_0 (N : NetD) (sk : Int) (f : Nat) : (N.patch sk f).nm 0 = N.normal ((N.fs.getD f []).getD 0 0) := rfl
theorem nm4_1 (N : NetD) (sk : Int) (f : Nat) : (N.patch sk f).nm 1 = N.normal ((N.fs.getD f []).getD 1 0) := rfl
theorem nm4_2 (N : NetD) (sk : Int) (f : Nat) : (N.patch sk f).nm 2 = N.normal ((N.fs.getD f []).getD 2 0) := rfl
theorem nm4_3 (N : NetD) (sk : Int) (f : Nat) : (N.patch sk f).nm 3 = N.normal ((N.fs.getD f []).getD 3 0) := rfl
theorem mean_shift {g : P3 → Int} (hg : Co g) {F : P3 → P3} {k : Int} (hF : ∀ p, g (F p) = g p + k) (hk : -16384 ≤ k ∧ k ≤ 16384) {l : List (P3 × Int)} {d : Int} (hl : l.length ≤ 1000000) (hw : ∀ q ∈ l, (-32768 ≤ g q.1 ∧ g q.1 ≤ 32768) ∧ 0 ≤ q.2 ∧ q.2 ≤ 10000) (hd : (l.map (·.2)).sum = d) (h0 : 0 < d) (h1 : d ≤ 1000000000) :
    g (meanP d (l.map fun q => (F q.1, q.2))) = g (meanP d l) + k := by
  have w1 : WOk g l := fun q hq => by have := hw q hq; omega
  have w2 : WOk g (l.map fun q => (F q.1, q.2)) := fun q hq => by
    obtain ⟨r, hr, rfl⟩ := List.mem_map.1 hq
    have := hw r hr
    have e := hF r.1
    simp only; omega
  unfold meanP
  rw [hg.of, hg.of, co_foldN hg l Z3 w1 (by rw [hg.z]; omega), co_foldN hg _ Z3 w2 (by rw [hg.z, List.length_map]; omega), hg.z, Int.zero_add, Int.zero_add, List.map_map]
  have e : ((l.map ((fun q => g q.1 * q.2) ∘ fun q => (F q.1, q.2)))).sum = (l.map fun q => g q.1 * q.2).sum + k * d := by
    rw [← hd]
    clear hd w1 w2 hw hl
    induction l with
    | nil => simp
    | cons x r ih =>
      simp only [List.map_cons, List.sum_cons, ih, Function.comp, hF, Int.add_mul, Int.mul_add]
      omega
  rw [e]
  have a1 := sum_wb l w1
  have b1 := mulb (a := k) (w := d) (m := 16384) (k := 1000000000) hk.1 hk.2 (by omega) h1 (by omega)
  exact rnd_shift h0 (by omega) (by omega) (by omega)
theorem mean_mov {b : P3} (hb : InP 16384 b) {l : List (P3 × Int)} {d : Int} (hl : l.length ≤ 1000000) (hw : ∀ q ∈ l, InP 32768 q.1 ∧ 0 ≤ q.2 ∧ q.2 ≤ 10000) (hd : (l.map (·.2)).sum = d) (h0 : 0 < d) (h1 : d ≤ 1000000000) :
    meanP d (l.map fun q => (movP b q.1, q.2)) = movP b (meanP d l) := by
  obtain ⟨bx, by_, bz⟩ := hb
  have x := mean_shift co_x (F := movP b) (k := b.x) (fun p => rfl) bx hl (fun q hq => ⟨(hw q hq).1.1, (hw q hq).2⟩) hd h0 h1
  have y := mean_shift co_y (F := movP b) (k := b.y) (fun p => rfl) by_ hl (fun q hq => ⟨(hw q hq).1.2.1, (hw q hq).2⟩) hd h0 h1
  have z := mean_shift co_z (F := movP b) (k := b.z) (fun p => rfl) bz hl (fun q hq => ⟨(hw q hq).1.2.2, (hw q hq).2⟩) hd h0 h1
  generalize meanP d (l.map fun q => (movP b q.1, q.2)) = p at *
  obtain ⟨px, py, pz⟩ := p
  simp only at x y z
  rw [x, y, z]; rfl
/-- A patch whose first so many points are moved. -/
def PtD.mov (p : PtD) (b : P3) (k : Nat) : PtD := ⟨fun j => if j < k then movP b (p.pt j) else p.pt j, p.co, p.nm, p.sk⟩
/-- A net whose points are moved. -/
def NetD.mov (N : NetD) (b : P3) : NetD := ⟨N.vs.map (movP b), N.fs, N.sh, N.t⟩
section
variable {N : NetD} (ok : NetOk N) {b : P3} (hb : InP 16384 b) (hin : ∀ p ∈ N.vs, InP 32768 p) (hfl : ∀ x ∈ N.t.fans, x.length ≤ 9000) (hfp : ∀ v : Nat, v < N.vs.length → 0 < (N.t.fans.getD v []).length)
include ok hb hin hfl hfp
theorem in_box {p : P3} (h : ∀ g : P3 → Int, Co g → -32768 ≤ g p ∧ g p ≤ 32768) : InP 32768 p := ⟨h _ co_x, h _ co_y, h _ co_z⟩
theorem hin_co {g : P3 → Int} (hg : Co g) : ∀ p ∈ N.vs, -32768 ≤ g p ∧ g p ≤ 32768 := fun p hp => by
  have := co_vat hg (m := 32768) (by omega) (vs := [p]) (fun q hq => by simp only [List.mem_cons, List.not_mem_nil, or_false] at hq; rw [hq]; exact hin p hp) 0
  exact this
theorem vat_mov {v : Int} (h0 : 0 ≤ v) (h1 : v < N.vs.length) : vat (N.mov b).vs v = movP b (vat N.vs v) := vat_map _ _ _ h0 h1
theorem vat_in {v : Int} (h0 : 0 ≤ v) (h1 : v < N.vs.length) : InP 32768 (vat N.vs v) := hin _ (vat_at _ _ h0 h1)
theorem cornA_rng {f : Int} (h0 : 0 ≤ f) (h1 : f < N.fs.length) (v : Int) (a : Nat) : 0 ≤ cornA (N.fs.getD f.toNat []) v a ∧ cornA (N.fs.getD f.toNat []) v a < N.vs.length := by
  have hf : f.toNat < N.fs.length := by omega
  have hx : N.fs.getD f.toNat [] = N.fs[f.toNat] := by rw [List.getD_eq_getElem?_getD, List.getElem?_eq_getElem hf]; rfl
  obtain ⟨h4, hin⟩ := ok.four _ (List.getElem_mem hf)
  rw [hx]
  refine hin _ ?_
  unfold cornA
  rw [List.getD_eq_getElem?_getD, List.getElem?_eq_getElem (by omega)]
  exact List.getElem_mem _
theorem ends_mov (v : Int) : (N.mov b).ends v = (N.ends v).map (movP b) := by
  unfold NetD.ends
  rw [List.map_filterMap]
  refine fm_congr _ ?_
  intro q hq
  split
  · rfl
  · have he : q.1 ∈ N.t.es := (List.of_mem_zip hq).1
    have := ok.rng _ he
    have hu : ∀ u, other v q.1 = some u → 0 ≤ u ∧ u < N.vs.length := fun u hu => by
      unfold other at hu
      split at hu
      · obtain rfl := Option.some.inj hu; exact this.2
      · split at hu
        · obtain rfl := Option.some.inj hu; exact this.1
        · cases hu
    cases e : other v q.1 with
    | none => rfl
    | some u =>
      have := hu u e
      simp only [Option.map_some]
      rw [vat_mov ok hb hin hfl hfp this.1 this.2]
theorem around_mov (v : Int) : (N.mov b).around v = N.around v := by
  unfold NetD.around
  rw [ends_mov ok hb hin hfl hfp, List.length_map]
  rfl
theorem inner_in {f : Int} (h0 : 0 ≤ f) (h1 : f < N.fs.length) (v : Int) : InP 32768 (N.inner f v) :=
  in_box ok hb hin hfl hfp fun g hg => inner_box ok hg (by omega) (by omega) (hin_co ok hb hin hfl hfp hg) hfl hfp h0 h1 v
theorem inner_mov {f : Int} (h0 : 0 ≤ f) (h1 : f < N.fs.length) (v : Int) : (N.mov b).inner f v = movP b (N.inner f v) := by
  have ha := around_rng ok co_x (by omega) (by omega) (hin_co ok hb hin hfl hfp co_x) hfl hfp v
  have hc := fun a => cornA_rng ok hb hin hfl hfp h0 h1 v a
  have e := fun a => vat_mov ok hb hin hfl hfp (hc a).1 (hc a).2
  have i := fun a => vat_in ok hb hin hfl hfp (hc a).1 (hc a).2
  have hf : (N.mov b).fs = N.fs := rfl
  unfold NetD.inner
  simp only [around_mov ok hb hin hfl hfp, hf, e]
  refine (mean_mov hb (l := [(vat N.vs (cornA (N.fs.getD f.toNat []) v 0), N.around v), (vat N.vs (cornA (N.fs.getD f.toNat []) v 1), 2), (vat N.vs (cornA (N.fs.getD f.toNat []) v 2), 1), (vat N.vs (cornA (N.fs.getD f.toNat []) v 3), 2)]) (by simp) (fun q hq => ?_) (by simp) (by omega) (by omega))
  simp only [List.mem_cons, List.not_mem_nil, or_false] at hq
  rcases hq with rfl | rfl | rfl | rfl
  · exact ⟨i 0, ha.1, by simp only; omega⟩
  · exact ⟨i 1, by simp only; omega, by simp only; omega⟩
  · exact ⟨i 2, by simp only; omega, by simp only; omega⟩
  · exact ⟨i 3, by simp only; omega, by simp only; omega⟩
theorem near_mov {v w : Int} (hv0 : 0 ≤ v) (hv1 : v < N.vs.length) (hw0 : 0 ≤ w) (hw1 : w < N.vs.length) (he : eix N.t.es v w < N.t.es.length) : (N.mov b).near v w = movP b (N.near v w) := by
  have hs1 : (N.mov b).sh = N.sh := rfl
  have ht1 : (N.mov b).t = N.t := rfl
  unfold NetD.near
  simp only [hs1, ht1]
  split
  · rename_i hs
    have hsl : eix N.t.es v w < N.sh.length := by rw [ok.ns]; exact he
    have hz : eix N.t.es v w < (N.t.es.zip N.sh).length := by rw [List.length_zip]; omega
    rw [List.getD_eq_getElem?_getD, List.getElem?_eq_getElem hsl, Option.getD_some] at hs
    have := ok.soft _ (List.getElem_mem hz) (by rw [List.getElem_zip]; exact hs)
    rw [List.getElem_zip] at this
    simp only at this
    rw [List.getD_eq_getElem?_getD, List.getElem?_eq_getElem he, Option.getD_some]
    rw [inner_mov ok hb hin hfl hfp this.1.1.1 this.1.1.2, inner_mov ok hb hin hfl hfp this.1.2.1 this.1.2.2]
    have b1 := inner_in ok hb hin hfl hfp this.1.1.1 this.1.1.2 v
    have b2 := inner_in ok hb hin hfl hfp this.1.2.1 this.1.2.2 v
    refine (mean_mov hb (l := [(N.inner N.t.es[eix N.t.es v w].f v, 1), (N.inner N.t.es[eix N.t.es v w].g v, 1)]) (by simp) (fun q hq => ?_) (by simp) (by omega) (by omega))
    simp only [List.mem_cons, List.not_mem_nil, or_false] at hq
    rcases hq with rfl | rfl
    · exact ⟨b1, by simp only; omega, by simp only; omega⟩
    · exact ⟨b2, by simp only; omega, by simp only; omega⟩
  · rw [vat_mov ok hb hin hfl hfp hv0 hv1, vat_mov ok hb hin hfl hfp hw0 hw1]
    have b1 := vat_in ok hb hin hfl hfp hv0 hv1
    have b2 := vat_in ok hb hin hfl hfp hw0 hw1
    refine (mean_mov hb (l := [(vat N.vs v, 2), (vat N.vs w, 1)]) (by simp) (fun q hq => ?_) (by simp) (by omega) (by omega))
    simp only [List.mem_cons, List.not_mem_nil, or_false] at hq
    rcases hq with rfl | rfl
    · exact ⟨b1, by simp only; omega, by simp only; omega⟩
    · exact ⟨b2, by simp only; omega, by simp only; omega⟩
theorem middle_mov {v : Nat} (hv : v < N.vs.length) : (N.mov b).middle (v : Int) = movP b (N.middle (v : Int)) := by
  have hp := hfp v hv
  have hvf : v < N.t.fans.length := by rw [ok.nf]; exact hv
  have hl : (N.t.fans.getD v []).length ≤ 9000 := by
    rw [List.getD_eq_getElem?_getD, List.getElem?_eq_getElem hvf]; exact hfl _ (List.getElem_mem hvf)
  have ht1 : (N.mov b).t = N.t := rfl
  unfold NetD.middle
  rw [ht1, Int.toNat_natCast]
  have e : ((N.t.fans.getD v []).map fun f => ((N.mov b).inner f (v : Int), (1 : Int))) = ((N.t.fans.getD v []).map fun f => (N.inner f (v : Int), (1 : Int))).map fun q => (movP b q.1, q.2) := by
    rw [List.map_map]
    refine List.map_congr_left fun f hf => ?_
    have := (ok.fan v hv f hf).1
    simp only [Function.comp]
    rw [inner_mov ok hb hin hfl hfp this.1 this.2]
  rw [e]
  refine mean_mov hb (by rw [List.length_map]; omega) (fun q hq => ?_) ?_ (by omega) (by omega)
  · obtain ⟨f, hf, rfl⟩ := List.mem_map.1 hq
    have := (ok.fan v hv f hf).1
    exact ⟨inner_in ok hb hin hfl hfp this.1 this.2 _, by simp only; omega, by simp only; omega⟩
  · rw [List.map_map]
    generalize N.t.fans.getD v [] = l
    induction l with
    | nil => rfl
    | cons x r ih => rw [List.map_cons, List.sum_cons, ih, List.length_cons]; simp only [Function.comp]; omega
theorem corner_mov {v : Nat} (hv : v < N.vs.length) : (N.mov b).corner (v : Int) = movP b (N.corner (v : Int)) := by
  have hm := middle_mov ok hb hin hfl hfp hv
  have hv2 := vat_mov ok hb hin hfl hfp (v := (v : Int)) (by omega) (by omega)
  have hv3 := vat_in ok hb hin hfl hfp (v := (v : Int)) (by omega) (by omega)
  have he : ∀ p ∈ N.ends (v : Int), InP 32768 p := fun p hp => in_box ok hb hin hfl hfp fun g hg => ends_box ok hg (by omega) (by omega) (hin_co ok hb hin hfl hfp hg) hfl hfp (v : Int) p hp
  unfold NetD.corner
  rw [ends_mov ok hb hin hfl hfp]
  cases e : N.ends (v : Int) with
  | nil => exact hm
  | cons a l =>
    cases l with
    | nil => exact hm
    | cons c m =>
      cases m with
      | nil =>
        rw [e] at he
        have a1 := he a (by simp)
        have a2 := he c (by simp)
        simp only [List.map_cons, List.map_nil]
        rw [hv2]
        refine (mean_mov hb (l := [(vat N.vs (v : Int), 4), (a, 1), (c, 1)]) (by simp) (fun q hq => ?_) (by simp) (by omega) (by omega))
        simp only [List.mem_cons, List.not_mem_nil, or_false] at hq
        rcases hq with rfl | rfl | rfl
        · exact ⟨hv3, by simp only; omega, by simp only; omega⟩
        · exact ⟨a1, by simp only; omega, by simp only; omega⟩
        · exact ⟨a2, by simp only; omega, by simp only; omega⟩
      | cons d m => exact hv2
theorem normal_mov (v : Int) : (N.mov b).normal v = N.normal v := by
  have e : (N.mov b).ups (N.mov b).fs v = N.ups N.fs v := by
    have hf : (N.mov b).fs = N.fs := rfl
    unfold NetD.ups
    rw [hf]
    congr 1
    refine fm_congr _ ?_
    intro x hx
    split
    · obtain ⟨h4, h⟩ := ok.four x hx
      have hc : ∀ k, k < 4 → 0 ≤ x.getD k 0 ∧ x.getD k 0 < N.vs.length := fun k hk => by
        refine h _ ?_
        rw [List.getD_eq_getElem?_getD, List.getElem?_eq_getElem (by omega)]
        exact List.getElem_mem _
      have e := fun k hk => vat_mov ok hb hin hfl hfp (hc k hk).1 (hc k hk).2
      have s : ∀ p q : P3, sbW (movP b p) (movP b q) = sbW p q := fun p q => by
        unfold sbW movP
        simp only [P3.mk.injEq]
        exact ⟨by congr 1; omega, by congr 1; omega, by congr 1; omega⟩
      unfold NetD.up
      rw [e 2 (by omega), e 0 (by omega), e 3 (by omega), e 1 (by omega), s, s]
    · rfl
  unfold NetD.normal
  rw [e]
set_option maxHeartbeats 1000000 in
theorem patch_mov (sk : Int) {f : Nat} (hf : f < N.fs.length) : ((N.mov b).patch sk f).row = ((N.patch sk f).mov b 16).row := by
  have hx : N.fs.getD f [] = N.fs[f] := by rw [List.getD_eq_getElem?_getD, List.getElem?_eq_getElem hf]; rfl
  obtain ⟨h4, hr⟩ := ok.four _ (List.getElem_mem hf)
  have hed := ok.edge _ (List.getElem_mem hf)
  have hI := fun v => inner_mov ok hb hin hfl hfp (f := (f : Int)) (by omega) (by omega) v
  have hc : ∀ k, k < 4 → 0 ≤ N.fs[f].getD k 0 ∧ N.fs[f].getD k 0 < N.vs.length := fun k hk => by
    refine hr _ ?_
    rw [List.getD_eq_getElem?_getD, List.getElem?_eq_getElem (by omega)]
    exact List.getElem_mem _
  have e0 := hed 0 (by omega)
  have e1 := hed 1 (by omega)
  have e2 := hed 2 (by omega)
  have e3 := hed 3 (by omega)
  have c0 := hc 0 (by omega)
  have c1 := hc 1 (by omega)
  have c2 := hc 2 (by omega)
  have c3 := hc 3 (by omega)
  have hfs : (N.mov b).fs = N.fs := rfl
  simp only [Nat.reduceAdd, Nat.reduceMod] at e0 e1 e2 e3
  have hpt : ∀ u, u < 16 → ((N.mov b).patch sk f).pt u = movP b ((N.patch sk f).pt u) := fun u hu => by
    have hN := fun {v w : Int} hv0 hv1 hw0 hw1 he => near_mov ok hb hin hfl hfp (v := v) (w := w) hv0 hv1 hw0 hw1 he
    have hC : ∀ y : Int, 0 ≤ y → y < N.vs.length → (N.mov b).corner y = movP b (N.corner y) := fun y h0 h1 => by
      obtain ⟨n, rfl⟩ := Int.eq_ofNat_of_zero_le h0
      exact corner_mov ok hb hin hfl hfp (by omega)
    rcases cases16 hu with rfl | rfl | rfl | rfl | rfl | rfl | rfl | rfl | rfl | rfl | rfl | rfl | rfl | rfl | rfl | rfl
    · rw [pt16_0, pt16_0, hfs, hx]; exact hC _ c0.1 c0.2
    · rw [pt16_1, pt16_1, hfs, hx]; exact hN c0.1 c0.2 c1.1 c1.2 e0
    · rw [pt16_2, pt16_2, hfs, hx]; exact hN c1.1 c1.2 c0.1 c0.2 (by rw [eix_symm]; exact e0)
    · rw [pt16_3, pt16_3, hfs, hx]; exact hC _ c1.1 c1.2
    · rw [pt16_4, pt16_4, hfs, hx]; exact hN c0.1 c0.2 c3.1 c3.2 (by rw [eix_symm]; exact e3)
    · rw [pt16_5, pt16_5, hfs, hx]; exact hI _
    · rw [pt16_6, pt16_6, hfs, hx]; exact hI _
    · rw [pt16_7, pt16_7, hfs, hx]; exact hN c1.1 c1.2 c2.1 c2.2 e1
    · rw [pt16_8, pt16_8, hfs, hx]; exact hN c3.1 c3.2 c0.1 c0.2 e3
    · rw [pt16_9, pt16_9, hfs, hx]; exact hI _
    · rw [pt16_10, pt16_10, hfs, hx]; exact hI _
    · rw [pt16_11, pt16_11, hfs, hx]; exact hN c2.1 c2.2 c1.1 c1.2 (by rw [eix_symm]; exact e1)
    · rw [pt16_12, pt16_12, hfs, hx]; exact hC _ c3.1 c3.2
    · rw [pt16_13, pt16_13, hfs, hx]; exact hN c3.1 c3.2 c2.1 c2.2 (by rw [eix_symm]; exact e2)
    · rw [pt16_14, pt16_14, hfs, hx]; exact hN c2.1 c2.2 c3.1 c3.2 e2
    · rw [pt16_15, pt16_15, hfs, hx]; exact hC _ c2.1 c2.2
  have hnm : ∀ k, k < 4 → ((N.mov b).patch sk f).nm k = (N.patch sk f).nm k := fun k hk => by
    have hn := normal_mov ok hb hin hfl hfp
    rcases (by omega : k = 0 ∨ k = 1 ∨ k = 2 ∨ k = 3) with rfl | rfl | rfl | rfl
    · rw [nm4_0, nm4_0, hfs, hn]
    · rw [nm4_1, nm4_1, hfs, hn]
    · rw [nm4_2, nm4_2, hfs, hn]
    · rw [nm4_3, nm4_3, hfs, hn]
  have hco : ((N.mov b).patch sk f).co = (N.patch sk f).co := by rw [patch_co, patch_co, hfs]
  have hsk : ((N.mov b).patch sk f).sk = (N.patch sk f).sk := by rw [patch_sk, patch_sk]
  clear c0 c1 c2 c3 e0 e1 e2 e3 hc hI hed hr h4 hx hfs
  generalize (N.mov b).patch sk f = p at *
  generalize N.patch sk f = q at *
  unfold PtD.row
  refine svC_ext fun v hv => ?_
  unfold PtD.c PtD.mov pC
  by_cases h : v < 48
  · simp only [h, if_true]
    have e16 : v / 3 < 16 := by omega
    simp only [hpt _ e16, e16, if_true]
  · by_cases h2 : v < 52
    · simp only [h, h2, if_true, if_false]
      rw [hco]
    · by_cases h3 : v < 64
      · simp only [h, h2, h3, if_true, if_false]
        rw [hnm _ (by omega)]
      · simp only [h, h2, h3, if_true, if_false]
        rw [hsk]
end
end Go.Proofs.Ytpdnaceggpdleab
