/- The document's good is the walk's right (math). -/
import Derived.Test.YtbehobojgeganaaTopW
import Derived.Test.YtbehobojgeganaaTopC
namespace Go.Proofs.Ytbehobojgeganaa
set_option linter.unusedVariables false
set_option linter.unusedSimpArgs false
set_option linter.unnecessarySimpa false
def sd (w : Way) : Sd := ⟨w.a, w.b, w.f⟩
def key (a b : Int) (w : Way) : Bool := w.a == a && w.b == b
theorem sF_rot (f : Int) (x : List Int) (hn : 2 ≤ x.length) : sF f x = ((waysF f x).map sd).drop 1 ++ ((waysF f x).map sd).take 1 := by
  have hl : ((waysF f x).map sd).length = x.length := by simp [waysF_length]
  have hg : ∀ i, i < x.length → ((waysF f x).map sd)[i]? = some ⟨x.getD ((i + x.length - 1) % x.length) 0, x.getD i 0, f⟩ := by
    intro i hi
    rw [List.getElem?_map, waysF_get f x hn i hi]; rfl
  generalize (waysF f x).map sd = m at *
  apply List.ext_getElem?
  intro i
  rw [List.getElem?_append, List.length_drop, hl]
  by_cases h1 : i < x.length - 1
  · rw [if_pos h1, List.getElem?_drop, show 1 + i = i + 1 by omega, hg (i + 1) (by omega)]
    have e1 : (i + 1 + x.length - 1) % x.length = i := by rw [show i + 1 + x.length - 1 = i + x.length by omega, Nat.add_mod_right, Nat.mod_eq_of_lt (by omega)]
    have e2 : (i + 1) % x.length = i + 1 := Nat.mod_eq_of_lt (by omega)
    rw [e1]
    simp [sF, List.getElem?_range, show i < x.length by omega, e2]
  · rw [if_neg h1]
    by_cases h2 : i < x.length
    · have h3 : i = x.length - 1 := by omega
      rw [List.getElem?_take, if_pos (by omega), show i - (x.length - 1) = 0 by omega, hg 0 (by omega)]
      have e1 : (0 + x.length - 1) % x.length = i := by rw [show 0 + x.length - 1 = x.length - 1 by omega, Nat.mod_eq_of_lt (by omega)]; omega
      have e2 : (i + 1) % x.length = 0 := by rw [show i + 1 = x.length by omega, Nat.mod_self]
      rw [e1]
      simp [sF, h2, e2]
    · rw [List.getElem?_take, if_neg (by omega), List.getElem?_eq_none (by rw [sF_len]; omega)]
theorem sF_perm (f : Int) (x : List Int) (hn : 2 ≤ x.length) : (sF f x).Perm ((waysF f x).map sd) := by
  rw [sF_rot f x hn]
  refine List.perm_append_comm.trans ?_
  rw [List.take_append_drop]
theorem sL_perm : ∀ (fs : List (List Int)) (k : Nat), Long fs → (sL k fs).Perm ((waysL k fs).map sd)
  | [], k, h => by simp [sL, waysL]
  | x :: r, k, h => by
    rw [sL, waysL, List.map_append]
    exact (sF_perm _ x (by have := h x (by simp); omega)).append (sL_perm r (k + 1) fun y hy => h y (by simp [hy]))
theorem out_perm {l m : List Sd} (h : l.Perm m) : outS l = outS m := by
  match l, m, h with
  | [], m, h => rw [List.nil_perm.1 h]
  | [s], m, h => rw [List.singleton_perm.1 h]
  | s :: t :: r, m, h =>
    have hl := h.length_eq
    rw [out_two (by simp), out_two (by rw [← hl]; simp)]
theorem along_ways {fs : List (List Int)} (hl : Long fs) (a b : Int) : alongV fs a b = outS (((waysL 0 fs).filter (key a b)).map sd) := by
  unfold alongV
  rw [out_perm ((sL_perm fs 0 hl).filter _), List.filter_map]
  rfl
def KeyU (al : List Way) : Prop := al.Pairwise fun x y => ¬(x.a = y.a ∧ x.b = y.b)
theorem key_le {al : List Way} (h : KeyU al) (a b : Int) : (al.filter (key a b)).length ≤ 1 := by
  have h2 := List.Pairwise.filter (key a b) h
  have h3 : ∀ w ∈ al.filter (key a b), w.a = a ∧ w.b = b := fun w hw => by
    have := (List.mem_filter.1 hw).2
    simpa [key] using this
  match hf : al.filter (key a b) with
  | [] => simp
  | [_] => simp
  | x :: y :: r =>
    exfalso
    rw [hf] at h2 h3
    have := (List.pairwise_cons.1 h2).1 y (by simp)
    have p := h3 x (by simp)
    have q := h3 y (by simp)
    exact this ⟨p.1.trans q.1.symm, p.2.trans q.2.symm⟩
theorem along_face {fs : List (List Int)} (hl : Long fs) (h : KeyU (waysL 0 fs)) (a b : Int) : alongV fs a b = faceOf (waysL 0 fs) a b := by
  rw [along_ways hl]
  unfold faceOf look
  have e : (waysL 0 fs).find? (fun w => w.a == a && w.b == b) = ((waysL 0 fs).filter (key a b)).head? := (List.head?_filter (p := key a b)).symm
  rw [e]
  have := key_le h a b
  match hf : (waysL 0 fs).filter (key a b), this with
  | [], _ => rfl
  | [w], _ => rfl
theorem keyU_of {al : List Way} (h : ∀ w ∈ al, (al.filter (key w.a w.b)).length ≤ 1) : KeyU al := by
  unfold KeyU
  rw [List.pairwise_iff_forall_sublist]
  intro x y hs ⟨e1, e2⟩
  have h1 := h x (hs.subset (by simp))
  have h2 := (hs.filter (key x.a x.b)).length_le
  have h3 : [x, y].filter (key x.a x.b) = [x, y] := by simp [key, e1, e2]
  rw [h3] at h2
  simp at h2
  omega
theorem along_one {fs : List (List Int)} (hl : Long fs) {a b : Int} (h : 0 ≤ alongV fs a b) : ((waysL 0 fs).filter (key a b)).length ≤ 1 := by
  rw [along_ways hl] at h
  rcases Nat.lt_or_ge 1 ((waysL 0 fs).filter (key a b)).length with q | q
  · rw [out_two (by rw [List.length_map]; omega)] at h; omega
  · exact q
theorem tofU : ∀ (fs : List (List Int)) (k : Nat), Long fs → (∀ x ∈ fs, x.Nodup) → (waysL k fs).Pairwise fun x y => ¬(x.b = y.b ∧ x.f = y.f)
  | [], k, _, _ => List.Pairwise.nil
  | x :: r, k, hl, hn => by
    rw [waysL, List.pairwise_append]
    refine ⟨?_, tofU r (k + 1) (fun y hy => hl y (by simp [hy])) (fun y hy => hn y (by simp [hy])), ?_⟩
    · have h1 : ((waysF (k : Int) x).map Way.b).Pairwise (· ≠ ·) := by rw [waysF, wayR_b]; exact hn x (by simp)
      exact (List.pairwise_map.1 h1).imp fun h e => h e.1
    · intro w hw u hu e
      have e1 := waysF_f (by have := hl x (by simp); omega) hw
      obtain ⟨j, hj, hu2⟩ := (mem_waysL r (k + 1) u).1 hu
      have e2 := waysF_f (by have := hl r[j] (by simp); omega) hu2
      omega
theorem good_walk {V : Int} {fs : List (List Int)} (h0 : 0 ≤ V) : (GoodD V fs ∧ ∀ v, 0 ≤ v → v < V → ∃ w ∈ waysL 0 fs, w.b = v) ↔ WalkOk V fs := by
  constructor
  · rintro ⟨hg, hall⟩
    have hl : Long fs := fun x hx => (hg x hx).three
    have hnd : ∀ x ∈ fs, x.Nodup := fun x hx => by
      show x.Pairwise (· ≠ ·)
      rw [List.pairwise_iff_getElem]
      intro i j hi hj hij e
      have := ((hg x hx).one j hj).2.2 i hij
      rw [getD_at hi, getD_at hj] at this
      exact this e.symm
    refine ⟨hl, ?_, ?_, h0, hall⟩
    · intro w hw
      obtain ⟨j, hj, hw2⟩ := (mem_waysL fs 0 w).1 hw
      have hx := List.getElem_mem hj
      obtain ⟨i, hi, rfl⟩ := (mem_waysF (by have := hl _ hx; omega)).1 hw2
      have := (hg _ hx).one i hi
      exact ⟨this.1, this.2.1⟩
    · have hk : KeyU (waysL 0 fs) := keyU_of fun w hw => by
        obtain ⟨j, hj, hw2⟩ := (mem_waysL fs 0 w).1 hw
        have hx := List.getElem_mem hj
        have h3 := hl _ hx
        obtain ⟨i, hi, rfl⟩ := (mem_waysF (by omega)).1 hw2
        have hb := mod_back hi (by omega : 2 ≤ fs[j].length)
        have hgo := (hg _ hx).goes _ hb.2
        have e1 : ((i + fs[j].length - 1) % fs[j].length + 1) % fs[j].length = i := by
          rw [mod1 hi]
          by_cases hz : i = 0
          · rw [if_pos hz, show fs[j].length - 1 + 1 = fs[j].length by omega, Nat.mod_self, hz]
          · rw [if_neg hz, show i - 1 + 1 = i by omega, Nat.mod_eq_of_lt hi]
        rw [e1] at hgo
        exact along_one hl hgo
      exact List.Pairwise.and (tofU fs 0 hl hnd) hk
  · intro ok
    refine ⟨fun x hx => ?_, ok.all⟩
    obtain ⟨j, hj, rfl⟩ := List.mem_iff_getElem.mp hx
    have h3 := ok.long _ hx
    refine ⟨h3, fun i hi => ?_, fun i hi => ?_⟩
    · have hw : (⟨fs[j].getD ((i + fs[j].length - 1) % fs[j].length) 0, fs[j].getD i 0, (j : Int), fs[j].getD ((i + fs[j].length - 2) % fs[j].length) 0⟩ : Way) ∈ waysL 0 fs := by
        rw [mem_waysL]
        refine ⟨j, hj, ?_⟩
        rw [Nat.zero_add]
        exact (mem_waysF (by omega)).2 ⟨i, hi, rfl⟩
      have := ok.inr _ hw
      exact ⟨this.1, this.2, fun k hk e => by have := ok.corner j hj hi (by omega : k < fs[j].length) e; omega⟩
    · obtain ⟨c, hc⟩ := side_way ok j i hj hi
      have hk : KeyU (waysL 0 fs) := List.Pairwise.imp (fun h => h.2) ok.apart
      rw [along_face ok.long hk]
      have := faceOf_way ok hc
      simp only at this
      rw [this]; omega
end Go.Proofs.Ytbehobojgeganaa
