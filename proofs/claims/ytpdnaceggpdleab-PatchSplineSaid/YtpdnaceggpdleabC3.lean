/- Counts on a surface: sides, edges, corners. No program is imported. Faces told the other way round: their ways, their fans. No program is imported. The finer faces of a surface: one for each corner. They make a surface. No program is imported. The finer faces of a surface, and the ways along them. No program is imported. What a finer cage's vertices and creases are, coordinate by coordinate. Rows of structs of k cells, cell by cell. No program is imported. -/
import Derived.Test.YtpdnaceggpdleabC0
import Derived.Test.YtpdnaceggpdleabC1
import Derived.Test.YtpdnaceggpdleabC2
namespace Go.Proofs.Ytpdnaceggpdleab
set_option linter.unusedVariables false
set_option linter.unusedSimpArgs false
/-- The side of a face from one corner on is a way. -/
theorem side_way {n : Int} {fs : List (List Int)} (ok : WalkOk n fs) (f i : Nat) (hf : f < fs.length) (hi : i < fs[f].length) : ∃ c, (⟨fs[f].getD i 0, fs[f].getD ((i + 1) % fs[f].length) 0, (f : Int), c⟩ : Way) ∈ waysL 0 fs := by
  have hl := ok.long _ (List.getElem_mem hf)
  obtain ⟨e1, e2, e3⟩ := mod_forth hi (show 2 ≤ fs[f].length by omega)
  have h1 := (mem_waysL fs 0 _).2 ⟨f, hf, (mem_waysF (by omega)).2 ⟨_, e2, rfl⟩⟩
  rw [e1] at h1
  simp only [Nat.zero_add] at h1
  exact ⟨_, h1⟩
theorem edge_is {n : Int} {fs : List (List Int)} {es : List Ed} (hE : EdgesR (waysL 0 fs) es) {e : Ed} (he : e ∈ es) : e = edOf (waysL 0 fs) e.a e.b := by
  obtain ⟨w, hw, rfl⟩ := (hE.mem e).1 he
  rfl
theorem side_edge {n : Int} {fs : List (List Int)} {es : List Ed} (ok : WalkOk n fs) (hE : EdgesR (waysL 0 fs) es) {w : Way} (hw : w ∈ waysL 0 fs) : ∃ e ∈ es, e.a = min w.a w.b ∧ e.b = max w.a w.b :=
  ⟨_, (hE.mem _).2 ⟨w, hw, rfl⟩, rfl, rfl⟩
theorem sum_zero : ∀ l : List Nat, (∀ x ∈ l, x = 0) → l.sum = 0
  | [], _ => rfl
  | x :: l, h => by rw [List.sum_cons, sum_zero l fun y hy => h y (List.mem_cons_of_mem _ hy), h x (by simp)]
/-- Each corner is in one fan. -/
theorem sum_if (N : Nat) (k : Int) (h0 : 0 ≤ k) (h1 : k < N) : ((List.range N).map fun v : Nat => if k = (v : Int) then 1 else 0).sum = 1 := by
  induction N with
  | zero => omega
  | succ N ih =>
    rw [List.range_succ, List.map_append, List.sum_append]
    by_cases e : k = (N : Int)
    · have : ((List.range N).map fun v : Nat => if k = (v : Int) then 1 else 0).sum = 0 := by
        apply sum_zero
        intro x hx
        obtain ⟨v, hv, rfl⟩ := List.mem_map.1 hx
        rw [List.mem_range] at hv
        rw [if_neg (by omega)]
      rw [this]; simp [e]
    · rw [ih (by omega)]; simp [e]
theorem sum_add {α : Type} (l : List α) (f g : α → Nat) : (l.map fun x => f x + g x).sum = (l.map f).sum + (l.map g).sum := by
  induction l with
  | nil => rfl
  | cons x l ih => simp only [List.map_cons, List.sum_cons, ih]; omega
theorem sum_froms (N : Nat) : ∀ (P : List Way), (∀ w ∈ P, 0 ≤ w.a ∧ w.a < N) → ((List.range N).map fun v : Nat => (froms P (v : Int)).length).sum = P.length
  | [], _ => by
    apply sum_zero
    intro x hx
    obtain ⟨v, _, rfl⟩ := List.mem_map.1 hx
    rfl
  | w :: P, h => by
    have ih := sum_froms N P fun x hx => h x (List.mem_cons_of_mem _ hx)
    obtain ⟨h0, h1⟩ := h w (by simp)
    have e : (fun v : Nat => (froms (w :: P) (v : Int)).length) = fun v : Nat => (if w.a = (v : Int) then 1 else 0) + (froms P (v : Int)).length := by
      funext v
      unfold froms
      rw [List.filter_cons]
      by_cases c : w.a = (v : Int) <;> simp [c] <;> omega
    rw [e, sum_add, sum_if N w.a h0 h1, ih]; simp; omega
theorem corners {n : Int} {fs : List (List Int)} {t : TopoT} (h : TopoS n fs t) : (t.fans.map List.length).sum = (waysL 0 fs).length := by
  have e : t.fans.map List.length = (List.range t.fans.length).map fun v : Nat => (froms (waysL 0 fs) (v : Int)).length := by
    apply List.ext_getElem (by simp)
    intro v h1 h2
    have hv : v < t.fans.length := by simpa using h1
    obtain ⟨L, _, h4, h5⟩ := h.fan v hv (by have := h.nf; have := h.nr; omega)
    simp only [List.getElem_map, List.getElem_range, h5, List.length_map, h4]
  rw [e]
  refine sum_froms _ _ fun w hw => ?_
  obtain ⟨d, hd⟩ := h.walk.prev hw
  have := h.walk.inr _ hd
  simp only at this
  have := h.nf
  omega
end Go.Proofs.Ytpdnaceggpdleab
namespace Go.Proofs.Ytpdnaceggpdleab
set_option linter.unusedVariables false
set_option linter.unusedSimpArgs false
def turnW (w : Way) : Way := ⟨w.a, w.c, w.f, w.b⟩
def back (fs : List (List Int)) : List (List Int) := fs.map List.reverse
theorem back_back (fs : List (List Int)) : back (back fs) = fs := by
  unfold back; rw [List.map_map]
  have : (List.reverse ∘ List.reverse : List Int → List Int) = id := by funext x; simp
  rw [this, List.map_id]
theorem rev_getD (x : List Int) (k : Nat) (h : k < x.length) : x.reverse.getD k 0 = x.getD (x.length - 1 - k) 0 := by
  rw [List.getD_eq_getElem?_getD, List.getElem?_reverse h, List.getD_eq_getElem?_getD]
theorem turnF_in (f : Int) (x : List Int) (hn : 3 ≤ x.length) (w : Way) (h : w ∈ waysF f x.reverse) : turnW w ∈ waysF f x := by
  obtain ⟨i, hi, rfl⟩ := (mem_waysF (by simpa using (show 2 ≤ x.length by omega))).1 h
  simp only [List.length_reverse] at hi ⊢
  refine (mem_waysF (by omega)).2 ⟨if i = 0 then 1 else if i = 1 then 0 else x.length + 1 - i, by split <;> (try split) <;> omega, ?_⟩
  have m1 := mod1 hi
  have m2 := mod2 hi (by omega)
  have r0 := rev_getD x i hi
  have r1 := rev_getD x ((i + x.length - 1) % x.length) (Nat.mod_lt _ (by omega))
  have r2 := rev_getD x ((i + x.length - 2) % x.length) (Nat.mod_lt _ (by omega))
  simp only [turnW]
  rw [r0, r1, r2, m1, m2]
  by_cases c0 : i = 0
  · subst c0
    simp only [if_true]
    rw [mod1 (show 1 < x.length by omega), mod2 (show 1 < x.length by omega) (by omega)]
    simp only [show ¬ (1 : Nat) = 0 by omega, if_false, if_true]
    refine Way.ext4 ?_ ?_ rfl ?_ <;> first | rfl | (simp only; congr 1; omega)
  · simp only [if_neg c0]
    by_cases c1 : i = 1
    · subst c1
      simp only [if_true]
      rw [mod1 (show 0 < x.length by omega), mod2 (show 0 < x.length by omega) (by omega)]
      simp only [if_true]
      refine Way.ext4 ?_ ?_ rfl ?_ <;> first | rfl | (simp only; congr 1; omega)
    · simp only [if_neg c1]
      rw [mod1 (show x.length + 1 - i < x.length by omega), mod2 (show x.length + 1 - i < x.length by omega) (by omega)]
      rw [if_neg (show ¬ x.length + 1 - i = 0 by omega), if_neg (show ¬ x.length + 1 - i = 0 by omega)]
      refine Way.ext4 ?_ ?_ rfl ?_
      · simp only; congr 1; omega
      · simp only; congr 1; omega
      · simp only
        by_cases c2 : x.length + 1 - i = 1
        · rw [if_pos c2]; congr 1; omega
        · rw [if_neg c2]; congr 1; omega
theorem long_back {fs : List (List Int)} (h : Long fs) : Long (back fs) := fun x hx => by
  obtain ⟨y, hy, rfl⟩ := List.mem_map.1 hx
  have := h y hy; simpa using this
theorem turn_mem {fs : List (List Int)} (hl : Long fs) {w : Way} (h : w ∈ waysL 0 (back fs)) : turnW w ∈ waysL 0 fs := by
  obtain ⟨j, hj, hm⟩ := (mem_waysL _ 0 w).1 h
  have hj' : j < fs.length := by simpa [back] using hj
  have e : (back fs)[j] = fs[j].reverse := by simp [back]
  rw [e] at hm
  exact (mem_waysL fs 0 _).2 ⟨j, hj', turnF_in _ _ (hl _ (List.getElem_mem hj')) w hm⟩
theorem turn_mem' {fs : List (List Int)} (hl : Long fs) {w : Way} (h : w ∈ waysL 0 fs) : turnW w ∈ waysL 0 (back fs) := by
  rw [← back_back fs] at h
  exact turn_mem (long_back hl) h
theorem wayR_b (f : Int) : ∀ (x : List Int) (b a : Int), (wayR f b a x).map Way.b = x
  | [], _, _ => rfl
  | t :: r, b, a => by simp [wayR, wayR_b f r]
theorem waysF_fc {f : Int} {x : List Int} {w : Way} (h : w ∈ waysF f x) : w.f = f := by
  have : ∀ (x : List Int) (b a : Int) (w : Way), w ∈ wayR f b a x → w.f = f := fun x => by
    induction x with
    | nil => intro b a w h; simp [wayR] at h
    | cons t r ih =>
      intro b a w h
      rw [wayR] at h
      rcases List.mem_cons.1 h with rfl | h
      · rfl
      · exact ih a t w h
  exact this _ _ _ _ h
theorem apart_of : ∀ (fs : List (List Int)) (k : Nat), (∀ x ∈ fs, x.Nodup) → (∀ w ∈ waysL k fs, ∀ u ∈ waysL k fs, w.f ≠ u.f → ¬(w.a = u.a ∧ w.b = u.b)) → Apart (waysL k fs)
  | [], _, _, _ => List.Pairwise.nil
  | x :: r, k, h1, h2 => by
    unfold Apart
    rw [waysL, List.pairwise_append]
    refine ⟨?_, apart_of r (k + 1) (fun y hy => h1 y (List.mem_cons_of_mem _ hy)) (fun w hw u hu => h2 w (by rw [waysL]; exact List.mem_append_right _ hw) u (by rw [waysL]; exact List.mem_append_right _ hu)), fun w hw u hu => ?_⟩
    · have hn := h1 x (by simp)
      rw [List.nodup_iff_pairwise_ne] at hn
      have hm : ((waysF k x).map Way.b).Pairwise (· ≠ ·) := by unfold waysF; rw [wayR_b]; exact hn
      rw [List.pairwise_map] at hm
      exact hm.imp fun h => ⟨fun e => h e.1, fun e => h e.2⟩
    · have hf : w.f ≠ u.f := by
        rw [waysF_fc hw]
        obtain ⟨j, hj, hm⟩ := (mem_waysL r (k + 1) u).1 hu
        rw [waysF_fc hm]; omega
      exact ⟨fun e => hf e.2, h2 w (by rw [waysL]; exact List.mem_append_left _ hw) u (by rw [waysL]; exact List.mem_append_right _ hu) hf⟩
theorem WalkOk.nodup {n : Int} {fs : List (List Int)} (h : WalkOk n fs) : ∀ x ∈ fs, x.Nodup := fun x hx => by
  obtain ⟨j, hj, rfl⟩ := List.getElem_of_mem hx
  rw [List.nodup_iff_pairwise_ne, List.pairwise_iff_getElem]
  intro p q hp hq hpq e
  have := h.corner j hj hp hq (by rw [List.getD_eq_getElem?_getD, List.getD_eq_getElem?_getD, List.getElem?_eq_getElem hp, List.getElem?_eq_getElem hq, e])
  omega
theorem WalkOk.back {n : Int} {fs : List (List Int)} (h : WalkOk n fs) : WalkOk n (back fs) where
  long := long_back h.long
  inr w hw := by
    have h1 := turn_mem h.long hw
    obtain ⟨d, hd⟩ := h.prev h1
    obtain ⟨d2, hd2⟩ := h.prev hd
    have h3 := h.inr _ hd2
    simpa [turnW] using h3
  apart := by
    refine apart_of _ 0 (fun x hx => ?_) fun w hw u hu hf e => ?_
    · obtain ⟨y, hy, rfl⟩ := List.mem_map.1 hx
      rw [List.nodup_iff_pairwise_ne, List.pairwise_reverse]
      have := h.nodup y hy
      rw [List.nodup_iff_pairwise_ne] at this
      exact this.imp fun h e => h e.symm
    · have := h.cinj (turn_mem h.long hw) (turn_mem h.long hu) e.1 e.2
      have h3 := congrArg Way.f this
      exact hf (by simpa [turnW] using h3)
  pos := h.pos
  all v h0 h1 := by
    obtain ⟨w, hw, rfl⟩ := h.all v h0 h1
    obtain ⟨e, he⟩ := h.next hw
    obtain ⟨e2, he2⟩ := h.next he
    exact ⟨_, turn_mem' h.long he2, rfl⟩
/-- A chain of all ways about v, begun wherever it may: the search finds as many, and comes back just when it does. -/
theorem cover {n : Int} {fs : List (List Int)} (ok : WalkOk n fs) {v s : Int} {L : List Way} (hpos : 0 < L.length) (hF : FanC (waysL 0 fs) v s L) (hl : L.length = (froms (waysL 0 fs) v).length)
    (r : Bool) (hr : r = true → ends L s = s) (hnr : r = false → ends L s ≠ s ∧ ∀ w ∈ waysL 0 fs, w.a = v → w.b ≠ ends L s) :
    ∃ M, FanR (waysL 0 fs) v (hubOf (waysL 0 fs) v (waysL 0 fs)).1 M r ∧ M.length = (froms (waysL 0 fs) v).length := by
  have hnd := hF.nodup ok
  have hall : ∀ w ∈ waysL 0 fs, w.a = v → w ∈ L := fun w hw ha =>
    nodup_all L _ hnd (fun u hu => mem_froms.2 (hF.mem u hu)) (by omega) w (mem_froms.2 ⟨hw, ha⟩)
  have hends := ends_at s hpos
  have hne : froms (waysL 0 fs) v ≠ [] := fun e => by
    have : L.length = 0 := by rw [hl, e]; rfl
    omega
  obtain ⟨w, hw, hwb, hcase⟩ := hubOf_to (waysL 0 fs) v (waysL 0 fs) hne
  obtain ⟨hw1, hw2⟩ := mem_froms.1 hw
  obtain ⟨i, hi, hwi⟩ := List.getElem_of_mem (hall w hw1 hw2)
  -- a way about v follows another just when it isn't the first of a path
  have hback : ∀ k (hk : k < L.length), (0 < k ∨ r = true) → look (waysL 0 fs) (L[k]).b (L[k]).a ≠ none := by
    intro k hk hor
    have hm := hF.mem _ (List.getElem_mem hk)
    rw [hm.2, look_ne, ok.comes]
    rcases Nat.eq_zero_or_pos k with h0 | h0
    · subst h0
      have hrt : r = true := hor.resolve_left (by omega)
      have h1 := hF.mem _ (List.getElem_mem (show L.length - 1 < L.length by omega))
      exact ⟨_, h1.1, h1.2, by rw [hF.first hk, ← hends, hr hrt]⟩
    · have h1 := hF.mem _ (List.getElem_mem (show k - 1 < L.length by omega))
      have h2 := hF.link (k - 1) (by omega)
      simp only [show k - 1 + 1 = k by omega] at h2
      exact ⟨_, h1.1, h1.2, h2.symm⟩
  cases r with
  | false =>
    obtain ⟨hn1, hn2⟩ := hnr rfl
    have h0 : look (waysL 0 fs) (L[0]).b (L[0]).a = none := by
      apply Classical.byContradiction
      intro hc
      have hm := hF.mem _ (List.getElem_mem hpos)
      rw [hm.2] at hc
      rw [← ne_eq, look_ne, ok.comes] at hc
      obtain ⟨u, hu, ha, hcu⟩ := hc
      obtain ⟨k, hk, e⟩ := List.getElem_of_mem (hall u hu ha)
      rw [hF.first hpos, ← e] at hcu
      by_cases h1 : k + 1 < L.length
      · exact hF.mid k h1 hcu
      · have : k = L.length - 1 := by omega
        subst this
        rw [← hends] at hcu; exact hn1 hcu
    have hi0 : i = 0 := by
      rcases hcase with h1 | ⟨_, h1⟩
      · apply Classical.byContradiction
        intro hne
        refine hback i hi (.inl (by omega)) ?_
        rw [hwi]; exact h1
      · exact absurd h0 (h1 _ (mem_froms.2 (hF.mem _ (List.getElem_mem hpos))))
    subst hi0
    have hs : (hubOf (waysL 0 fs) v (waysL 0 fs)).1 = s := by rw [← hwb, ← hwi]; exact hF.first hpos
    rw [hs]
    exact ⟨L, ⟨hF, fun h => (by cases h), fun _ => ⟨hn2, .inr hn1⟩⟩, hl⟩
  | true =>
    have hes := hr rfl
    have nxt : ∀ k (hk : k < L.length), (L[k]).c = (L[(k + 1) % L.length]'(Nat.mod_lt _ hpos)).b := by
      intro k hk
      have g : ∀ m (hm : m < L.length), (k + 1) % L.length = m → (L[(k + 1) % L.length]'(Nat.mod_lt _ hpos)).b = (L[m]).b := by
        rintro m hm rfl; rfl
      by_cases e : k + 1 = L.length
      · rw [g 0 hpos (by rw [modS hk, if_pos e]), hF.first hpos, ← hes, hends]
        congr 2; omega
      · rw [g (k + 1) (by omega) (by rw [modS hk, if_neg e])]
        exact (hF.link k (by omega)).symm
    have hML : (L.drop i ++ L.take i).length = L.length := by simp; omega
    have get : ∀ k (hk : k < (L.drop i ++ L.take i).length), (L.drop i ++ L.take i)[k] = L[(i + k) % L.length]'(Nat.mod_lt _ hpos) := by
      intro k hk
      rw [hML] at hk
      by_cases e : k < L.length - i
      · rw [List.getElem_append_left (by simpa using e), List.getElem_drop]
        congr 1
        rw [Nat.mod_eq_of_lt (by omega)]
      · rw [List.getElem_append_right (by simpa using e), List.getElem_take]
        congr 1
        simp only [List.length_drop]
        rw [show i + k = k - (L.length - i) + L.length by omega, Nat.add_mod_right, Nat.mod_eq_of_lt (by omega)]
    have hhub : (hubOf (waysL 0 fs) v (waysL 0 fs)).1 = (L[i]).b := by rw [← hwb, ← hwi]
    have inj : ∀ p q (hp : p < L.length) (hq : q < L.length), (L[p]).b = (L[q]).b → p = q := by
      intro p q hp hq e
      have m1 := hF.mem _ (List.getElem_mem hp)
      have m2 := hF.mem _ (List.getElem_mem hq)
      have := ok.apart.key m1.1 m2.1 (m1.2.trans m2.2.symm) e
      exact (List.getElem_inj hnd).1 this
    refine ⟨L.drop i ++ L.take i, ⟨⟨fun u hu => ?_, fun h => ?_, fun k hk => ?_, fun k hk => ?_⟩, fun _ => ⟨fun e => ?_, ?_⟩, fun h => by cases h⟩, by rw [hML]; exact hl⟩
    · rcases List.mem_append.1 hu with hu | hu
      · exact hF.mem u (List.mem_of_mem_drop hu)
      · exact hF.mem u (List.mem_of_mem_take hu)
    · rw [get 0 h, hhub]
      congr 2
      rw [Nat.add_zero, Nat.mod_eq_of_lt hi]
    · rw [get (k + 1) hk, get k (by omega), nxt _ (Nat.mod_lt _ hpos)]
      congr 2
      rw [show i + (k + 1) = i + k + 1 by omega]
      exact (Nat.mod_add_mod _ _ _).symm
    · rw [get k (by omega), nxt _ (Nat.mod_lt _ hpos), hhub]
      intro e
      have := inj _ _ (Nat.mod_lt _ hpos) hi e
      rw [hML] at hk
      rw [Nat.mod_add_mod] at this
      by_cases c : i + k + 1 < L.length
      · rw [Nat.mod_eq_of_lt c] at this; omega
      · rw [show i + k + 1 = i + k + 1 - L.length + L.length by omega, Nat.add_mod_right, Nat.mod_eq_of_lt (by omega)] at this
        omega
    · have := hML
      rw [e] at this; simp at this; omega
    · have hp2 : 0 < (L.drop i ++ L.take i).length := by omega
      rw [ends_at _ hp2, get _ (by omega), nxt _ (Nat.mod_lt _ hpos), hhub]
      congr 2
      rw [Nat.mod_add_mod, hML, show i + (L.length - 1) + 1 = i + L.length by omega, Nat.add_mod_right, Nat.mod_eq_of_lt hi]
theorem fan_pos {n : Int} {fs : List (List Int)} (ok : WalkOk n fs) {v : Int} (h0 : 0 ≤ v) (h1 : v < n) {L : List Way} (hl : L.length = (froms (waysL 0 fs) v).length) : 0 < L.length := by
  obtain ⟨w, hw, hb⟩ := ok.all v h0 h1
  obtain ⟨d, hd⟩ := ok.next hw
  have h2 : (⟨w.b, d, w.f, w.a⟩ : Way) ∈ froms (waysL 0 fs) v := mem_froms.2 ⟨hd, hb⟩
  rw [hl]
  exact List.length_pos_of_mem h2
end Go.Proofs.Ytpdnaceggpdleab
namespace Go.Proofs.Ytpdnaceggpdleab
set_option linter.unusedVariables false
set_option linter.unusedSimpArgs false
/-- The number of the edge between two vertices. -/
def eix (es : List Ed) (a b : Int) : Nat := es.findIdx fun e => e.a == min a b && e.b == max a b
theorem eix_symm (es : List Ed) (a b : Int) : eix es a b = eix es b a := by unfold eix; rw [Int.min_comm, Int.max_comm]
theorem eix_spec {n : Int} {fs : List (List Int)} {es : List Ed} (ok : WalkOk n fs) (hE : EdgesR (waysL 0 fs) es) {w : Way} (hw : w ∈ waysL 0 fs) : ∃ h : eix es w.a w.b < es.length, es[eix es w.a w.b].a = min w.a w.b ∧ es[eix es w.a w.b].b = max w.a w.b := by
  obtain ⟨e, he, h1, h2⟩ := side_edge ok hE hw
  have hl : eix es w.a w.b < es.length := List.findIdx_lt_length_of_exists ⟨e, he, by simp [h1, h2]⟩
  have := List.findIdx_getElem (w := hl)
  simp only [Bool.and_eq_true, beq_iff_eq] at this
  exact ⟨hl, this.1, this.2⟩
theorem WalkOk.bc {n : Int} {fs : List (List Int)} (h : WalkOk n fs) {w : Way} (hw : w ∈ waysL 0 fs) : w.b ≠ w.c := fun e => by
  obtain ⟨j, hj, hm⟩ := (mem_waysL fs 0 w).1 hw
  have hl := h.long _ (List.getElem_mem hj)
  obtain ⟨i, hi, rfl⟩ := (mem_waysF (by omega)).1 hm
  simp only at e
  have h2 : (i + fs[j].length - 2) % fs[j].length < fs[j].length := Nat.mod_lt _ (by omega)
  have := h.corner j hj hi h2 e
  rw [mod2 hi (by omega)] at this
  split at this
  · omega
  · split at this <;> omega
/-- Two ways along one edge. -/
theorem same_edge {n : Int} {fs : List (List Int)} {es : List Ed} (ok : WalkOk n fs) (hE : EdgesR (waysL 0 fs) es) {w u : Way} (hw : w ∈ waysL 0 fs) (hu : u ∈ waysL 0 fs) (h : eix es w.a w.b = eix es u.a u.b) : w = u ∨ (w.a = u.b ∧ w.b = u.a ∧ w.f ≠ u.f) := by
  obtain ⟨h1, h2, h3⟩ := eix_spec ok hE hw
  obtain ⟨g1, g2, g3⟩ := eix_spec ok hE hu
  have e1 : es[eix es w.a w.b] = es[eix es u.a u.b] := by congr 1
  rw [e1] at h2 h3
  have : (w.a = u.a ∧ w.b = u.b) ∨ (w.a = u.b ∧ w.b = u.a) := by omega
  rcases this with h4 | h4
  · exact .inl (ok.apart.key hw hu h4.1 h4.2)
  · refine .inr ⟨h4.1, h4.2, fun hf => ?_⟩
    obtain ⟨d, hd⟩ := ok.next hw
    have e2 := ok.fromf hd hu (by exact h4.2) hf
    have e3 := congrArg Way.c e2
    have e4 := congrArg Way.b e2
    simp only at e3
    exact ok.bc hu (by rw [← e3]; exact h4.1.symm)
/-- A corner of a face, as the way from there. -/
def cw (f : Int) (x : List Int) (i : Nat) : Way := ⟨x.getD i 0, x.getD ((i + 1) % x.length) 0, f, x.getD ((i + x.length - 1) % x.length) 0⟩
def cornF (f : Int) (x : List Int) : List Way := (List.range x.length).map (cw f x)
def cornL : Nat → List (List Int) → List Way
  | _, [] => []
  | k, x :: r => cornF k x ++ cornL (k + 1) r
theorem cw_mem {f : Int} {x : List Int} (hn : 2 ≤ x.length) {i : Nat} (hi : i < x.length) : cw f x i ∈ waysF f x := by
  obtain ⟨e1, e2, e3⟩ := mod_forth hi hn
  refine (mem_waysF hn).2 ⟨(i + 1) % x.length, e2, ?_⟩
  unfold cw
  rw [e1, e3]
theorem cornF_mem {f : Int} {x : List Int} (hn : 2 ≤ x.length) {w : Way} : w ∈ cornF f x ↔ w ∈ waysF f x := by
  constructor
  · intro h
    obtain ⟨i, hi, rfl⟩ := List.mem_map.1 h
    exact cw_mem hn (by simpa using hi)
  · intro h
    obtain ⟨i, hi, rfl⟩ := (mem_waysF hn).1 h
    obtain ⟨m1, m2⟩ := mod_back hi hn
    refine List.mem_map.2 ⟨(i + x.length - 1) % x.length, by simpa using m2, ?_⟩
    unfold cw
    have m3 : ((i + x.length - 1) % x.length + 1) % x.length = i := by
      rw [Nat.mod_add_mod, show i + x.length - 1 + 1 = i + x.length by omega, Nat.add_mod_right, Nat.mod_eq_of_lt hi]
    rw [m1, m3]
theorem cornL_mem {fs : List (List Int)} (hl : Long fs) : ∀ (k : Nat) {w : Way}, w ∈ cornL k fs ↔ w ∈ waysL k fs := by
  induction fs with
  | nil => intro k w; simp [cornL, waysL]
  | cons x r ih =>
    intro k w
    have h1 := hl x (by simp)
    rw [cornL, waysL, List.mem_append, List.mem_append, cornF_mem (by omega), ih (fun y hy => hl y (List.mem_cons_of_mem _ hy))]
theorem cornL_len : ∀ (fs : List (List Int)) (k : Nat), (cornL k fs).length = (waysL k fs).length
  | [], _ => rfl
  | x :: r, k => by rw [cornL, waysL, List.length_append, List.length_append, cornL_len r (k + 1), waysF_length]; simp [cornF]
theorem apart_nodup {al : List Way} (h : Apart al) : al.Nodup := by
  rw [List.nodup_iff_pairwise_ne]
  exact h.imp fun {x y} h e => h.2 ⟨by rw [e], by rw [e]⟩
theorem cornF_nodup (f : Int) {x : List Int} (h : x.Nodup) : (cornF f x).Nodup := by
  unfold cornF
  rw [List.nodup_iff_pairwise_ne, List.pairwise_map, List.pairwise_iff_getElem]
  intro i j hi hj hij e
  have hi2 : i < x.length := by simpa using hi
  have hj2 : j < x.length := by simpa using hj
  have e2 := congrArg Way.a e
  simp only [cw, List.getElem_range, List.getD_eq_getElem?_getD, List.getElem?_eq_getElem hi2, List.getElem?_eq_getElem hj2, Option.getD_some] at e2
  rw [List.nodup_iff_pairwise_ne, List.pairwise_iff_getElem] at h
  exact h i j hi2 hj2 hij e2
theorem cornF_f {f : Int} {x : List Int} {w : Way} (h : w ∈ cornF f x) : w.f = f := by
  obtain ⟨i, _, rfl⟩ := List.mem_map.1 h; rfl
theorem cornL_f : ∀ (fs : List (List Int)) (k : Nat) (w : Way), w ∈ cornL k fs → (k : Int) ≤ w.f
  | [], _, _, h => by simp [cornL] at h
  | x :: r, k, w, h => by
    rw [cornL, List.mem_append] at h
    rcases h with h | h
    · rw [cornF_f h]; exact Int.le_refl _
    · have := cornL_f r (k + 1) w h; omega
theorem cornL_nodup : ∀ (fs : List (List Int)) (k : Nat), (∀ x ∈ fs, x.Nodup) → (cornL k fs).Nodup
  | [], _, _ => List.nodup_nil
  | x :: r, k, h => by
    rw [cornL, List.nodup_append]
    refine ⟨cornF_nodup k (h x (by simp)), cornL_nodup r (k + 1) (fun y hy => h y (List.mem_cons_of_mem _ hy)), fun w hw u hu e => ?_⟩
    have h1 := cornF_f hw
    have h2 := cornL_f r (k + 1) u hu
    rw [e] at h1; omega
end Go.Proofs.Ytpdnaceggpdleab
namespace Go.Proofs.Ytpdnaceggpdleab
set_option linter.unusedVariables false
set_option linter.unusedSimpArgs false
set_option linter.unusedSectionVars false
/-- The number of the new vertex ahead of a corner, behind it, and in its face. -/
def hAhead (n : Int) (es : List Ed) (w : Way) : Int := n + (eix es w.a w.b : Int)
def hBehind (n : Int) (es : List Ed) (w : Way) : Int := n + (eix es w.c w.a : Int)
def hMid (n : Int) (es : List Ed) (w : Way) : Int := n + (es.length : Int) + w.f
def quadOf (n : Int) (es : List Ed) (w : Way) : List Int := [w.a, hAhead n es w, hMid n es w, hBehind n es w]
def fine (n : Int) (es : List Ed) (fs : List (List Int)) : List (List Int) := (cornL 0 fs).map (quadOf n es)
theorem fine_len (n : Int) (es : List Ed) (fs : List (List Int)) : (fine n es fs).length = (waysL 0 fs).length := by unfold fine; rw [List.length_map, cornL_len]
/-- The four ways along the finer face of a corner. -/
def t1 (n : Int) (es : List Ed) (j : Int) (w : Way) : Way := ⟨hBehind n es w, w.a, j, hMid n es w⟩
def t2 (n : Int) (es : List Ed) (j : Int) (w : Way) : Way := ⟨w.a, hAhead n es w, j, hBehind n es w⟩
def t3 (n : Int) (es : List Ed) (j : Int) (w : Way) : Way := ⟨hAhead n es w, hMid n es w, j, w.a⟩
def t4 (n : Int) (es : List Ed) (j : Int) (w : Way) : Way := ⟨hMid n es w, hBehind n es w, j, hAhead n es w⟩
theorem quad_ways (n : Int) (es : List Ed) (j : Int) (w : Way) : waysF j (quadOf n es w) = [t1 n es j w, t2 n es j w, t3 n es j w, t4 n es j w] := rfl
theorem fine_mem {n : Int} {es : List Ed} {fs : List (List Int)} {u : Way} : u ∈ waysL 0 (fine n es fs) ↔ ∃ (j : Nat) (h : j < (cornL 0 fs).length), u = t1 n es j (cornL 0 fs)[j] ∨ u = t2 n es j (cornL 0 fs)[j] ∨ u = t3 n es j (cornL 0 fs)[j] ∨ u = t4 n es j (cornL 0 fs)[j] := by
  rw [mem_waysL]
  unfold fine
  constructor
  · rintro ⟨j, hj, hm⟩
    have hj2 : j < (cornL 0 fs).length := by simpa using hj
    refine ⟨j, hj2, ?_⟩
    rw [List.getElem_map, quad_ways] at hm
    simpa using hm
  · rintro ⟨j, hj, h⟩
    refine ⟨j, by simpa using hj, ?_⟩
    rw [List.getElem_map, quad_ways]
    simpa using h
section
variable {n : Int} {fs : List (List Int)} {es : List Ed} (ok : WalkOk n fs) (hE : EdgesR (waysL 0 fs) es)
include ok hE
theorem ahead_rng {w : Way} (hw : w ∈ waysL 0 fs) : n ≤ hAhead n es w ∧ hAhead n es w < n + es.length := by
  obtain ⟨h, _⟩ := eix_spec ok hE hw
  unfold hAhead; omega
theorem behind_is {w : Way} (hw : w ∈ waysL 0 fs) : ∃ p ∈ waysL 0 fs, p.a = w.c ∧ p.b = w.a ∧ p.f = w.f ∧ hBehind n es w = hAhead n es p := by
  obtain ⟨d, hd⟩ := ok.prev hw
  exact ⟨_, hd, rfl, rfl, rfl, rfl⟩
theorem behind_rng {w : Way} (hw : w ∈ waysL 0 fs) : n ≤ hBehind n es w ∧ hBehind n es w < n + es.length := by
  obtain ⟨p, hp, _, _, _, e⟩ := behind_is ok hE hw
  rw [e]; exact ahead_rng ok hE hp
theorem way_rng {w : Way} (hw : w ∈ waysL 0 fs) : 0 ≤ w.a ∧ w.a < n := by
  obtain ⟨d, hd⟩ := ok.prev hw
  have := ok.inr _ hd
  exact this
theorem mid_rng {w : Way} (hw : w ∈ waysL 0 fs) : n + es.length ≤ hMid n es w ∧ hMid n es w < n + es.length + fs.length := by
  obtain ⟨j, hj, hm⟩ := (mem_waysL fs 0 w).1 hw
  have := waysF_fc hm
  unfold hMid; omega
theorem ahead_ne {w : Way} (hw : w ∈ waysL 0 fs) : hAhead n es w ≠ hBehind n es w := fun e => by
  obtain ⟨p, hp, p1, p2, p3, p4⟩ := behind_is ok hE hw
  rw [p4] at e
  unfold hAhead at e
  rcases same_edge ok hE hw hp (by omega) with h | ⟨h1, h2, h3⟩
  · have := congrArg Way.b h
    rw [p2] at this
    exact ok.ne hw this.symm
  · exact h3 p3.symm
/-- Ways that share the edge ahead and the face are one. -/
theorem ahead_one {w u : Way} (hw : w ∈ waysL 0 fs) (hu : u ∈ waysL 0 fs) (e : hAhead n es w = hAhead n es u) (hf : w.f = u.f) : w = u := by
  unfold hAhead at e
  rcases same_edge ok hE hw hu (by omega) with h | ⟨_, _, h⟩
  · exact h
  · exact absurd hf h
theorem behind_one {w u : Way} (hw : w ∈ waysL 0 fs) (hu : u ∈ waysL 0 fs) (e : hBehind n es w = hBehind n es u) (hf : w.f = u.f) : w = u := by
  obtain ⟨p, hp, p1, p2, p3, p4⟩ := behind_is ok hE hw
  obtain ⟨q, hq, q1, q2, q3, q4⟩ := behind_is ok hE hu
  have := ahead_one ok hE hp hq (by rw [← p4, ← q4, e]) (by rw [p3, q3, hf])
  exact ok.fromf hw hu (by rw [← p2, ← q2, this]) hf
theorem ahead_from {w u : Way} (hw : w ∈ waysL 0 fs) (hu : u ∈ waysL 0 fs) (e : hAhead n es w = hAhead n es u) (ha : w.a = u.a) : w = u := by
  unfold hAhead at e
  rcases same_edge ok hE hw hu (by omega) with h | ⟨h1, h2, _⟩
  · exact h
  · exact absurd (h2.trans ha.symm) (ok.ne hw).symm
theorem behind_from {w u : Way} (hw : w ∈ waysL 0 fs) (hu : u ∈ waysL 0 fs) (e : hBehind n es w = hBehind n es u) (ha : w.a = u.a) : w = u := by
  obtain ⟨p, hp, p1, p2, p3, p4⟩ := behind_is ok hE hw
  obtain ⟨q, hq, q1, q2, q3, q4⟩ := behind_is ok hE hu
  rw [p4, q4] at e
  unfold hAhead at e
  rcases same_edge ok hE hp hq (by omega) with h | ⟨h1, h2, _⟩
  · exact ok.cinj hw hu ha (by rw [← p1, ← q1, h])
  · have := ok.ne hp
    rw [h1, q2, ← ha, ← p2] at this
    exact absurd rfl this
theorem corn_in {j : Nat} (h : j < (cornL 0 fs).length) : (cornL 0 fs)[j] ∈ waysL 0 fs := (cornL_mem ok.long 0).1 (List.getElem_mem h)
theorem corn_at {w : Way} (hw : w ∈ waysL 0 fs) : ∃ (j : Nat) (h : j < (cornL 0 fs).length), (cornL 0 fs)[j] = w := List.getElem_of_mem ((cornL_mem ok.long 0).2 hw)
theorem corn_inj {i j : Nat} (hi : i < (cornL 0 fs).length) (hj : j < (cornL 0 fs).length) (e : (cornL 0 fs)[i] = (cornL 0 fs)[j]) : i = j :=
  (List.getElem_inj (cornL_nodup fs 0 ok.nodup)).1 e
theorem fine_walk : WalkOk (n + es.length + fs.length) (fine n es fs) where
  long x hx := by
    obtain ⟨w, _, rfl⟩ := List.mem_map.1 hx
    simp [quadOf]
  inr u hu := by
    obtain ⟨j, hj, h⟩ := fine_mem.1 hu
    have hw := corn_in ok hE hj
    have r1 := way_rng ok hE hw
    have r2 := ahead_rng ok hE hw
    have r3 := behind_rng ok hE hw
    have r4 := mid_rng ok hE hw
    have := ok.pos
    rcases h with rfl | rfl | rfl | rfl <;> simp only [t1, t2, t3, t4] <;> omega
  apart := by
    refine apart_of _ 0 (fun x hx => ?_) fun w hw u hu hf e => ?_
    · obtain ⟨w, hw0, rfl⟩ := List.mem_map.1 hx
      have hw := (cornL_mem ok.long 0).1 hw0
      have r1 := way_rng ok hE hw
      have r2 := ahead_rng ok hE hw
      have r3 := behind_rng ok hE hw
      have r4 := mid_rng ok hE hw
      have r5 := ahead_ne ok hE hw
      unfold quadOf
      simp only [List.nodup_cons, List.mem_cons, List.not_mem_nil, or_false, not_or, List.nodup_nil, and_true, not_false_eq_true]
      omega
    · obtain ⟨i, hi, h1⟩ := fine_mem.1 hw
      obtain ⟨j, hj, h2⟩ := fine_mem.1 hu
      have hx := corn_in ok hE hi
      have hy := corn_in ok hE hj
      have r1 := way_rng ok hE hx
      have r2 := ahead_rng ok hE hx
      have r3 := behind_rng ok hE hx
      have r4 := mid_rng ok hE hx
      have s1 := way_rng ok hE hy
      have s2 := ahead_rng ok hE hy
      have s3 := behind_rng ok hE hy
      have s4 := mid_rng ok hE hy
      have hij : i ≠ j := fun e2 => by
        subst e2
        rcases h1 with rfl | rfl | rfl | rfl <;> rcases h2 with rfl | rfl | rfl | rfl <;> exact hf rfl
      have hne : (cornL 0 fs)[i] ≠ (cornL 0 fs)[j] := fun e2 => hij (corn_inj ok hE hi hj e2)
      have q1 := fun e1 e2 => hne (behind_from ok hE hx hy e1 e2)
      have q2 := fun e1 e2 => hne (ahead_from ok hE hx hy e1 e2)
      have q3 := fun e1 e2 => hne (ahead_one ok hE hx hy e1 e2)
      have q4 := fun e1 e2 => hne (behind_one ok hE hx hy e1 e2)
      have mf : hMid n es (cornL 0 fs)[i] = hMid n es (cornL 0 fs)[j] → (cornL 0 fs)[i].f = (cornL 0 fs)[j].f := fun e => by unfold hMid at e; omega
      rcases h1 with rfl | rfl | rfl | rfl <;> rcases h2 with rfl | rfl | rfl | rfl <;> simp only [t1, t2, t3, t4] at e <;> first | omega | exact q1 e.1 e.2 | exact q2 e.2 e.1 | exact q3 e.1 (mf e.2) | exact q4 e.2 (mf e.1)
  pos := by have := ok.pos; omega
  all v h0 h1 := by
    by_cases c1 : v < n
    · obtain ⟨w, hw, rfl⟩ := ok.all v h0 c1
      obtain ⟨d, hd⟩ := ok.next hw
      obtain ⟨j, hj, e⟩ := corn_at ok hE hd
      exact ⟨t1 n es j (cornL 0 fs)[j], fine_mem.2 ⟨j, hj, .inl rfl⟩, by rw [e]; rfl⟩
    · by_cases c2 : v < n + es.length
      · have hk : (v - n).toNat < es.length := by omega
        obtain ⟨w, hw, e2⟩ := (hE.mem _).1 (List.getElem_mem hk)
        obtain ⟨j, hj, e⟩ := corn_at ok hE hw
        refine ⟨t2 n es j (cornL 0 fs)[j], fine_mem.2 ⟨j, hj, .inr (.inl rfl)⟩, ?_⟩
        rw [e]
        obtain ⟨k1, k2, k3⟩ := eix_spec ok hE hw
        have : eix es w.a w.b = (v - n).toNat := by
          apply Classical.byContradiction
          intro hne
          have hs := List.pairwise_iff_getElem.1 hE.sorted
          have g1 : es[(v - n).toNat].a = min w.a w.b := by rw [e2]; rfl
          have g2 : es[(v - n).toNat].b = max w.a w.b := by rw [e2]; rfl
          rcases Nat.lt_or_ge (eix es w.a w.b) (v - n).toNat with h | h
          · have := hs _ _ k1 hk h
            unfold ltE at this; omega
          · have := hs _ _ hk k1 (by omega)
            unfold ltE at this; omega
        show n + (eix es w.a w.b : Int) = v
        omega
      · have hk : (v - n - es.length).toNat < fs.length := by omega
        have hl := ok.long _ (List.getElem_mem hk)
        obtain ⟨j, hj, e⟩ := corn_at ok hE ((mem_waysL fs 0 _).2 ⟨_, hk, cw_mem (by omega) (i := 0) (by omega)⟩)
        refine ⟨t3 n es j (cornL 0 fs)[j], fine_mem.2 ⟨j, hj, .inr (.inr (.inl rfl))⟩, ?_⟩
        rw [e]
        show n + (es.length : Int) + ((0 + (v - n - es.length).toNat : Nat) : Int) = v
        omega
end
end Go.Proofs.Ytpdnaceggpdleab
namespace Go.Proofs.Ytpdnaceggpdleab
open Go.RowKit
set_option linter.unusedVariables false
set_option linter.unusedSimpArgs false
def Z3 : P3 := ⟨0, 0, 0⟩
def vat (vs : List P3) (v : Int) : P3 := vs.getD v.toNat Z3
/-- A point out of what is told of each coordinate. -/
def tri3 (f : (P3 → Int) → Int) : P3 := ⟨f P3.x, f P3.y, f P3.z⟩
def sumS (l : List Int) : Int := l.foldl (fun s y => wrap64 (s + y)) 0
theorem wrap_bd (x : Int) : i64B (wrap64 x) := by unfold i64B wrap64; omega
/-- A face's new vertex: q tells a vertex's coordinate. -/
def midS (q : Int → Int) (x : List Int) : Int := rnd (sumS (x.map q)) x.length
def halfS (q m : Int → Int) (e : Ed) (s : Int) : Int := if s = 0 then rnd (sumS [q e.a, q e.b, m e.f, m e.g]) 4 else rnd (sumS [q e.a, q e.b]) 2
/-- The other end of an edge at a vertex. -/
def other (v : Int) (e : Ed) : Option Int := if e.a = v then some e.b else if e.b = v then some e.a else none
/-- The coordinate of a vertex of a row. -/
def co (vs : List P3) (g : P3 → Int) (v : Int) : Int := g (vat vs v)
def midP (vs : List P3) (x : List Int) : P3 := tri3 fun g => midS (co vs g) x
def halfP (vs ms : List P3) (e : Ed) (s : Int) : P3 := tri3 fun g => halfS (co vs g) (co ms g) e s
/-- The sharpness of an edge that is left in its halves; none where it isn't told. -/
def lessS (e : Ed) (s : Int) : Option Int := if s < 2 ∨ ((e.f == -1) != (e.g == -1)) = true then none else some (if s = 255 then 255 else s - 1)
/-- The finer creases of the edges from number k on. -/
def restP (N : Int) : Nat → List (Ed × Int) → List P3
  | _, [] => []
  | k, p :: r => (match lessS p.1 p.2 with | some s => [⟨p.1.a, N + k, s⟩, ⟨p.1.b, N + k, s⟩] | none => []) ++ restP N (k + 1) r
theorem restP_snoc (N : Int) : ∀ (L : List (Ed × Int)) (k : Nat) (p : Ed × Int), restP N k (L ++ [p]) = restP N k L ++ restP N (k + L.length) [p]
  | [], k, p => by simp [restP]
  | a :: r, k, p => by
    rw [List.cons_append]
    show _ ++ restP N (k + 1) (r ++ [p]) = (_ ++ restP N (k + 1) r) ++ _
    rw [restP_snoc N r (k + 1) p, List.append_assoc, List.length_cons, show k + 1 + r.length = k + (r.length + 1) by omega]
/-- Each edge's sharpness: the ends' first, then crease by crease. -/
def base0 (e : Ed) : Int := if (e.f == -1) != (e.g == -1) then 255 else 0
def sharpK (es : List Ed) : List Int → List P3 → Option (List Int)
  | l, [] => some l
  | l, k :: r => if eix es k.x k.y < es.length then sharpK es (l.set (eix es k.x k.y) (max (l.getD (eix es k.x k.y) 0) k.z)) r else none
def sharpP (es : List Ed) (ks : List P3) : Option (List Int) := sharpK es (es.map base0) ks
theorem sharpK_len {es : List Ed} : ∀ {ks : List P3} {l m : List Int}, sharpK es l ks = some m → m.length = l.length
  | [], l, m, h => by simp only [sharpK, Option.some.injEq] at h; rw [h]
  | k :: r, l, m, h => by
    rw [sharpK] at h
    split at h
    · have := sharpK_len h; simpa using this
    · cases h
theorem sharpK_ge {es : List Ed} : ∀ {ks : List P3} {l m : List Int}, sharpK es l ks = some m → ∀ i (h1 : i < l.length) (h2 : i < m.length), l[i] ≤ m[i]
  | [], l, m, h => by
    simp only [sharpK, Option.some.injEq] at h; subst h; intro i h1 h2; exact Int.le_refl _
  | k :: r, l, m, h => by
    intro i h1 h2
    rw [sharpK] at h
    split at h
    · have := sharpK_ge h i (by simpa using h1) h2
      rw [List.getElem_set] at this
      split at this
      · rename_i e
        subst e
        rw [List.getD_eq_getElem?_getD, List.getElem?_eq_getElem h1, Option.getD_some] at this
        omega
      · exact this
    · cases h
end Go.Proofs.Ytpdnaceggpdleab
namespace Go.Proofs.Ytpdnaceggpdleab
open Go.RowKit
set_option linter.unusedVariables false
set_option linter.unusedSimpArgs false
/-- The cells of n structs of k cells each. -/
def rowCs (k n : Nat) (h : Nat → Nat → Value) : Array Value := ((List.range (n * k)).map fun j => h (j / k) (j % k)).toArray
theorem rowCs_size (k n : Nat) (h : Nat → Nat → Value) : (rowCs k n h).size = n * k := by simp [rowCs]
theorem row_split {k v j : Nat} (hj : j < k) : (v * k + j) / k = v ∧ (v * k + j) % k = j := by
  have hk : 0 < k := by omega
  have h1 : (v * k + j) / k = v := by rw [Nat.mul_comm, Nat.mul_add_div hk, Nat.div_eq_of_lt hj, Nat.add_zero]
  have h2 : (v * k + j) % k = j := by rw [Nat.mul_comm, Nat.mul_add_mod, Nat.mod_eq_of_lt hj]
  exact ⟨h1, h2⟩
theorem row_lt {k n v j : Nat} (hv : v < n) (hj : j < k) : v * k + j < n * k := by
  have : (v + 1) * k ≤ n * k := Nat.mul_le_mul_right k hv
  rw [Nat.add_mul] at this; omega
theorem rowCs_at {k n : Nat} (h : Nat → Nat → Value) {v j : Nat} (hv : v < n) (hj : j < k) : (rowCs k n h)[v * k + j]? = some (h v j) := by
  unfold rowCs
  rw [List.getElem?_toArray, List.getElem?_map, List.getElem?_range (row_lt hv hj)]
  obtain ⟨e1, e2⟩ := row_split (v := v) hj
  simp [e1, e2]
def setC (h : Nat → Nat → Value) (v j : Nat) (u : Value) : Nat → Nat → Value := fun a b => if a = v ∧ b = j then u else h a b
theorem rowCs_set {k n : Nat} (h : Nat → Nat → Value) {v j : Nat} (hv : v < n) (hj : j < k) (u : Value) : (rowCs k n h).setIfInBounds (v * k + j) u = rowCs k n (setC h v j u) := by
  have hk : 0 < k := by omega
  apply Array.ext
  · simp [rowCs_size]
  · intro i h1 h2
    have hi : i < n * k := by simpa [rowCs_size] using h1
    rw [Array.getElem_setIfInBounds (by simpa [rowCs_size] using hi)]
    simp only [rowCs, List.getElem_toArray, List.getElem_map, List.getElem_range, setC]
    obtain ⟨e1, e2⟩ := row_split (v := v) hj
    split
    · rename_i e
      subst e
      rw [if_pos ⟨e1, e2⟩]
    · rename_i e
      rw [if_neg]
      rintro ⟨a, b⟩
      apply e
      have := Nat.div_add_mod i k
      rw [a, b, Nat.mul_comm] at this
      exact this
theorem rowCs_ext {k n : Nat} {h g : Nat → Nat → Value} (e : ∀ v j, v < n → j < k → h v j = g v j) : rowCs k n h = rowCs k n g := by
  rcases Nat.eq_zero_or_pos k with rfl | hk
  · simp [rowCs]
  unfold rowCs
  congr 1
  apply List.map_congr_left
  intro i hi
  have hi2 : i < n * k := by simpa using hi
  have : i / k < n := Nat.div_lt_of_lt_mul (by rw [Nat.mul_comm]; exact hi2)
  exact e _ _ this (Nat.mod_lt _ hk)
theorem rowCs_made {z : Array Value} {k n : Nat} (hz : z.size = k) (hk : 0 < k) : madeCells z (n * k) = rowCs k n (fun _ j => z.getD j default) := by
  apply Array.ext
  · simp [size_madeCells, rowCs_size]
  · intro i h1 h2
    simp only [madeCells, rowCs, Array.getElem_map, Array.getElem_range, List.getElem_toArray, List.getElem_map, List.getElem_range]
    rw [hz]
    have : i % k < z.size := by rw [hz]; exact Nat.mod_lt _ hk
    simp [Array.getD, this, getElem!_pos]
end Go.Proofs.Ytpdnaceggpdleab
