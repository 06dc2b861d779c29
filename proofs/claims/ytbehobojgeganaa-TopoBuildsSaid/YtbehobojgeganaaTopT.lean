/- Faces told the other way round: their ways, their fans. No program is imported. -/
import Derived.Test.YtbehobojgeganaaTopC
namespace Go.Proofs.Ytbehobojgeganaa
set_option linter.unusedVariables false
set_option linter.unusedSimpArgs false
def turnW (w : Way) : Way := ⟨w.a, w.c, w.f, w.b⟩
theorem turnW_turnW (w : Way) : turnW (turnW w) = w := rfl
def back (fs : List (List Int)) : List (List Int) := fs.map List.reverse
theorem back_back (fs : List (List Int)) : back (back fs) = fs := by
  unfold back; rw [List.map_map]
  have : (List.reverse ∘ List.reverse : List Int → List Int) = id := by funext x; simp
  rw [this, List.map_id]
theorem rev_getD (x : List Int) (k : Nat) (h : k < x.length) : x.reverse.getD k 0 = x.getD (x.length - 1 - k) 0 := by
  rw [List.getD_eq_getElem?_getD, List.getElem?_reverse h, List.getD_eq_getElem?_getD]
theorem turn_in (f : Int) (x : List Int) (hn : 3 ≤ x.length) (w : Way) (h : w ∈ waysF f x.reverse) : turnW w ∈ waysF f x := by
  obtain ⟨i, hi, rfl⟩ := (mem_waysF (by simpa using (show 2 ≤ x.length by omega))).1 h
  simp only [List.length_reverse] at hi ⊢
  refine (mem_waysF (by omega)).2 ⟨if i = 0 then 1 else if i = 1 then 0 else x.length + 1 - i, by split <;> (try split) <;> omega, ?_⟩
  have m1 := mod1 hi
  have m2 := mod2 hi (by omega)
  have r0 := rev_getD x i hi
  have r1 := rev_getD x ((i + x.length - 1) % x.length) (Nat.mod_lt _ (by omega))
  have r2 := rev_getD x ((i + x.length - 2) % x.length) (Nat.mod_lt _ (by omega))
  simp only [turnW]
  rw [r0, r1, r2, m1, m2]
  by_cases c0 : i = 0
  · subst c0
    simp only [if_true]
    rw [mod1 (show 1 < x.length by omega), mod2 (show 1 < x.length by omega) (by omega)]
    simp only [show ¬ (1 : Nat) = 0 by omega, if_false, if_true]
    refine Way.ext4 ?_ ?_ rfl ?_ <;> first | rfl | (simp only; congr 1; omega)
  · simp only [if_neg c0]
    by_cases c1 : i = 1
    · subst c1
      simp only [if_true]
      rw [mod1 (show 0 < x.length by omega), mod2 (show 0 < x.length by omega) (by omega)]
      simp only [if_true]
      refine Way.ext4 ?_ ?_ rfl ?_ <;> first | rfl | (simp only; congr 1; omega)
    · simp only [if_neg c1]
      rw [mod1 (show x.length + 1 - i < x.length by omega), mod2 (show x.length + 1 - i < x.length by omega) (by omega)]
      rw [if_neg (show ¬ x.length + 1 - i = 0 by omega), if_neg (show ¬ x.length + 1 - i = 0 by omega)]
      refine Way.ext4 ?_ ?_ rfl ?_
      · simp only; congr 1; omega
      · simp only; congr 1; omega
      · simp only
        by_cases c2 : x.length + 1 - i = 1
        · rw [if_pos c2]; congr 1; omega
        · rw [if_neg c2]; congr 1; omega
theorem long_back {fs : List (List Int)} (h : Long fs) : Long (back fs) := fun x hx => by
  obtain ⟨y, hy, rfl⟩ := List.mem_map.1 hx
  have := h y hy; simpa using this
theorem turn_mem {fs : List (List Int)} (hl : Long fs) {w : Way} (h : w ∈ waysL 0 (back fs)) : turnW w ∈ waysL 0 fs := by
  obtain ⟨j, hj, hm⟩ := (mem_waysL _ 0 w).1 h
  have hj' : j < fs.length := by simpa [back] using hj
  have e : (back fs)[j] = fs[j].reverse := by simp [back]
  rw [e] at hm
  exact (mem_waysL fs 0 _).2 ⟨j, hj', turn_in _ _ (hl _ (List.getElem_mem hj')) w hm⟩
theorem turn_mem' {fs : List (List Int)} (hl : Long fs) {w : Way} (h : w ∈ waysL 0 fs) : turnW w ∈ waysL 0 (back fs) := by
  rw [← back_back fs] at h
  exact turn_mem (long_back hl) h
theorem wayR_b (f : Int) : ∀ (x : List Int) (b a : Int), (wayR f b a x).map Way.b = x
  | [], _, _ => rfl
  | t :: r, b, a => by simp [wayR, wayR_b f r]
theorem waysF_fc {f : Int} {x : List Int} {w : Way} (h : w ∈ waysF f x) : w.f = f := by
  have : ∀ (x : List Int) (b a : Int) (w : Way), w ∈ wayR f b a x → w.f = f := fun x => by
    induction x with
    | nil => intro b a w h; simp [wayR] at h
    | cons t r ih =>
      intro b a w h
      rw [wayR] at h
      rcases List.mem_cons.1 h with rfl | h
      · rfl
      · exact ih a t w h
  exact this _ _ _ _ h
theorem apart_of : ∀ (fs : List (List Int)) (k : Nat), (∀ x ∈ fs, x.Nodup) → (∀ w ∈ waysL k fs, ∀ u ∈ waysL k fs, w.f ≠ u.f → ¬(w.a = u.a ∧ w.b = u.b)) → Apart (waysL k fs)
  | [], _, _, _ => List.Pairwise.nil
  | x :: r, k, h1, h2 => by
    unfold Apart
    rw [waysL, List.pairwise_append]
    refine ⟨?_, apart_of r (k + 1) (fun y hy => h1 y (List.mem_cons_of_mem _ hy)) (fun w hw u hu => h2 w (by rw [waysL]; exact List.mem_append_right _ hw) u (by rw [waysL]; exact List.mem_append_right _ hu)), fun w hw u hu => ?_⟩
    · have hn := h1 x (by simp)
      rw [List.nodup_iff_pairwise_ne] at hn
      have hm : ((waysF k x).map Way.b).Pairwise (· ≠ ·) := by unfold waysF; rw [wayR_b]; exact hn
      rw [List.pairwise_map] at hm
      exact hm.imp fun h => ⟨fun e => h e.1, fun e => h e.2⟩
    · have hf : w.f ≠ u.f := by
        rw [waysF_fc hw]
        obtain ⟨j, hj, hm⟩ := (mem_waysL r (k + 1) u).1 hu
        rw [waysF_fc hm]; omega
      exact ⟨fun e => hf e.2, h2 w (by rw [waysL]; exact List.mem_append_left _ hw) u (by rw [waysL]; exact List.mem_append_right _ hu) hf⟩
theorem WalkOk.nodup {n : Int} {fs : List (List Int)} (h : WalkOk n fs) : ∀ x ∈ fs, x.Nodup := fun x hx => by
  obtain ⟨j, hj, rfl⟩ := List.getElem_of_mem hx
  rw [List.nodup_iff_pairwise_ne, List.pairwise_iff_getElem]
  intro p q hp hq hpq e
  have := h.corner j hj hp hq (by rw [List.getD_eq_getElem?_getD, List.getD_eq_getElem?_getD, List.getElem?_eq_getElem hp, List.getElem?_eq_getElem hq, e])
  omega
theorem WalkOk.back {n : Int} {fs : List (List Int)} (h : WalkOk n fs) : WalkOk n (back fs) where
  long := long_back h.long
  inr w hw := by
    have h1 := turn_mem h.long hw
    obtain ⟨d, hd⟩ := h.prev h1
    obtain ⟨d2, hd2⟩ := h.prev hd
    have h3 := h.inr _ hd2
    simpa [turnW] using h3
  apart := by
    refine apart_of _ 0 (fun x hx => ?_) fun w hw u hu hf e => ?_
    · obtain ⟨y, hy, rfl⟩ := List.mem_map.1 hx
      rw [List.nodup_iff_pairwise_ne, List.pairwise_reverse]
      have := h.nodup y hy
      rw [List.nodup_iff_pairwise_ne] at this
      exact this.imp fun h e => h e.symm
    · have := h.cinj (turn_mem h.long hw) (turn_mem h.long hu) e.1 e.2
      have h3 := congrArg Way.f this
      exact hf (by simpa [turnW] using h3)
  pos := h.pos
  all v h0 h1 := by
    obtain ⟨w, hw, rfl⟩ := h.all v h0 h1
    obtain ⟨e, he⟩ := h.next hw
    obtain ⟨e2, he2⟩ := h.next he
    exact ⟨_, turn_mem' h.long he2, rfl⟩
theorem look_back {n : Int} {fs : List (List Int)} (h : WalkOk n fs) (a b : Int) : faceOf (waysL 0 (back fs)) a b = faceOf (waysL 0 fs) b a := by
  have hb := h.back
  have key : ∀ {gs : List (List Int)} (hg : WalkOk n gs) (a b : Int) (w : Way), w ∈ waysL 0 gs → w.a = a → w.b = b → faceOf (waysL 0 (back gs)) b a = w.f := by
    intro gs hg a b w hw ha hbb
    obtain ⟨e, he⟩ := hg.next hw
    have h1 := turn_mem' hg.long he
    have h2 := faceOf_way hg.back h1
    simp only [turnW] at h2
    rw [← ha, ← hbb]; exact h2
  cases h1 : look (waysL 0 fs) b a with
  | some w =>
    obtain ⟨hw, e1, e2⟩ := look_some h1
    rw [key h b a w hw e1 e2, ← e1, ← e2, faceOf_way h hw]
  | none =>
    cases h2 : look (waysL 0 (back fs)) a b with
    | none => simp [faceOf, h1, h2]
    | some u =>
      obtain ⟨hu, e1, e2⟩ := look_some h2
      have h3 := key hb a b u hu e1 e2
      rw [back_back] at h3
      have : faceOf (waysL 0 fs) b a = -1 := by simp [faceOf, h1]
      have h4 := faceOf_ge hb.long a b
      have h5 : faceOf (waysL 0 (back fs)) a b = u.f := by rw [← e1, ← e2]; exact faceOf_way hb hu
      rw [this] at h3
      rw [this, h5, ← h3]
/-- The edges are the same, but for their faces. -/
theorem edges_back {n : Int} {fs : List (List Int)} {es : List Ed} (h : WalkOk n fs) (hE : EdgesR (waysL 0 fs) es) : EdgesR (waysL 0 (back fs)) (es.map fun e => ⟨e.a, e.b, e.g, e.f⟩) where
  sorted := by rw [List.pairwise_map]; exact hE.sorted.imp fun h => h
  mem e := by
    have ed : ∀ a b, edOf (waysL 0 (back fs)) a b = ⟨a, b, faceOf (waysL 0 fs) b a, faceOf (waysL 0 fs) a b⟩ := fun a b => by
      unfold edOf; rw [look_back h, look_back h]
    rw [List.mem_map]
    constructor
    · rintro ⟨x, hx, rfl⟩
      obtain ⟨w, hw, rfl⟩ := (hE.mem x).1 hx
      obtain ⟨e2, he2⟩ := h.next hw
      refine ⟨_, turn_mem' h.long he2, ?_⟩
      rw [ed]
      simp only [turnW, edOf, Int.min_comm w.b w.a, Int.max_comm w.b w.a]
    · rintro ⟨w, hw, rfl⟩
      have h1 := turn_mem h.long hw
      obtain ⟨d, hd⟩ := h.prev h1
      refine ⟨edOf (waysL 0 fs) (min w.a w.b) (max w.a w.b), (hE.mem _).2 ⟨_, hd, ?_⟩, ?_⟩
      · simp only [turnW, Int.min_comm w.b w.a, Int.max_comm w.b w.a]
      · rw [ed]; rfl
/-- A chain of all ways about v, begun wherever it may: the search finds as many, and comes back just when it does. -/
theorem cover {n : Int} {fs : List (List Int)} (ok : WalkOk n fs) {v s : Int} {L : List Way} (hpos : 0 < L.length) (hF : FanC (waysL 0 fs) v s L) (hl : L.length = (froms (waysL 0 fs) v).length)
    (r : Bool) (hr : r = true → ends L s = s) (hnr : r = false → ends L s ≠ s ∧ ∀ w ∈ waysL 0 fs, w.a = v → w.b ≠ ends L s) :
    ∃ M, FanR (waysL 0 fs) v (hubOf (waysL 0 fs) v (waysL 0 fs)).1 M r ∧ M.length = (froms (waysL 0 fs) v).length := by
  have hnd := hF.nodup ok
  have hall : ∀ w ∈ waysL 0 fs, w.a = v → w ∈ L := fun w hw ha =>
    nodup_all L _ hnd (fun u hu => mem_froms.2 (hF.mem u hu)) (by omega) w (mem_froms.2 ⟨hw, ha⟩)
  have hends := ends_at s hpos
  have hne : froms (waysL 0 fs) v ≠ [] := fun e => by
    have : L.length = 0 := by rw [hl, e]; rfl
    omega
  obtain ⟨w, hw, hwb, hcase⟩ := hubOf_to (waysL 0 fs) v (waysL 0 fs) hne
  obtain ⟨hw1, hw2⟩ := mem_froms.1 hw
  obtain ⟨i, hi, hwi⟩ := List.getElem_of_mem (hall w hw1 hw2)
  -- a way about v follows another just when it isn't the first of a path
  have hback : ∀ k (hk : k < L.length), (0 < k ∨ r = true) → look (waysL 0 fs) (L[k]).b (L[k]).a ≠ none := by
    intro k hk hor
    have hm := hF.mem _ (List.getElem_mem hk)
    rw [hm.2, look_ne, ok.comes]
    rcases Nat.eq_zero_or_pos k with h0 | h0
    · subst h0
      have hrt : r = true := hor.resolve_left (by omega)
      have h1 := hF.mem _ (List.getElem_mem (show L.length - 1 < L.length by omega))
      exact ⟨_, h1.1, h1.2, by rw [hF.first hk, ← hends, hr hrt]⟩
    · have h1 := hF.mem _ (List.getElem_mem (show k - 1 < L.length by omega))
      have h2 := hF.link (k - 1) (by omega)
      simp only [show k - 1 + 1 = k by omega] at h2
      exact ⟨_, h1.1, h1.2, h2.symm⟩
  cases r with
  | false =>
    obtain ⟨hn1, hn2⟩ := hnr rfl
    have h0 : look (waysL 0 fs) (L[0]).b (L[0]).a = none := by
      apply Classical.byContradiction
      intro hc
      have hm := hF.mem _ (List.getElem_mem hpos)
      rw [hm.2] at hc
      rw [← ne_eq, look_ne, ok.comes] at hc
      obtain ⟨u, hu, ha, hcu⟩ := hc
      obtain ⟨k, hk, e⟩ := List.getElem_of_mem (hall u hu ha)
      rw [hF.first hpos, ← e] at hcu
      by_cases h1 : k + 1 < L.length
      · exact hF.mid k h1 hcu
      · have : k = L.length - 1 := by omega
        subst this
        rw [← hends] at hcu; exact hn1 hcu
    have hi0 : i = 0 := by
      rcases hcase with h1 | ⟨_, h1⟩
      · apply Classical.byContradiction
        intro hne
        refine hback i hi (.inl (by omega)) ?_
        rw [hwi]; exact h1
      · exact absurd h0 (h1 _ (mem_froms.2 (hF.mem _ (List.getElem_mem hpos))))
    subst hi0
    have hs : (hubOf (waysL 0 fs) v (waysL 0 fs)).1 = s := by rw [← hwb, ← hwi]; exact hF.first hpos
    rw [hs]
    exact ⟨L, ⟨hF, fun h => (by cases h), fun _ => ⟨hn2, .inr hn1⟩⟩, hl⟩
  | true =>
    have hes := hr rfl
    have nxt : ∀ k (hk : k < L.length), (L[k]).c = (L[(k + 1) % L.length]'(Nat.mod_lt _ hpos)).b := by
      intro k hk
      have g : ∀ m (hm : m < L.length), (k + 1) % L.length = m → (L[(k + 1) % L.length]'(Nat.mod_lt _ hpos)).b = (L[m]).b := by
        rintro m hm rfl; rfl
      by_cases e : k + 1 = L.length
      · rw [g 0 hpos (by rw [modS hk, if_pos e]), hF.first hpos, ← hes, hends]
        congr 2; omega
      · rw [g (k + 1) (by omega) (by rw [modS hk, if_neg e])]
        exact (hF.link k (by omega)).symm
    have hML : (L.drop i ++ L.take i).length = L.length := by simp; omega
    have get : ∀ k (hk : k < (L.drop i ++ L.take i).length), (L.drop i ++ L.take i)[k] = L[(i + k) % L.length]'(Nat.mod_lt _ hpos) := by
      intro k hk
      rw [hML] at hk
      by_cases e : k < L.length - i
      · rw [List.getElem_append_left (by simpa using e), List.getElem_drop]
        congr 1
        rw [Nat.mod_eq_of_lt (by omega)]
      · rw [List.getElem_append_right (by simpa using e), List.getElem_take]
        congr 1
        simp only [List.length_drop]
        rw [show i + k = k - (L.length - i) + L.length by omega, Nat.add_mod_right, Nat.mod_eq_of_lt (by omega)]
    have hhub : (hubOf (waysL 0 fs) v (waysL 0 fs)).1 = (L[i]).b := by rw [← hwb, ← hwi]
    have inj : ∀ p q (hp : p < L.length) (hq : q < L.length), (L[p]).b = (L[q]).b → p = q := by
      intro p q hp hq e
      have m1 := hF.mem _ (List.getElem_mem hp)
      have m2 := hF.mem _ (List.getElem_mem hq)
      have := ok.apart.key m1.1 m2.1 (m1.2.trans m2.2.symm) e
      exact (List.getElem_inj hnd).1 this
    refine ⟨L.drop i ++ L.take i, ⟨⟨fun u hu => ?_, fun h => ?_, fun k hk => ?_, fun k hk => ?_⟩, fun _ => ⟨fun e => ?_, ?_⟩, fun h => by cases h⟩, by rw [hML]; exact hl⟩
    · rcases List.mem_append.1 hu with hu | hu
      · exact hF.mem u (List.mem_of_mem_drop hu)
      · exact hF.mem u (List.mem_of_mem_take hu)
    · rw [get 0 h, hhub]
      congr 2
      rw [Nat.add_zero, Nat.mod_eq_of_lt hi]
    · rw [get (k + 1) hk, get k (by omega), nxt _ (Nat.mod_lt _ hpos)]
      congr 2
      rw [show i + (k + 1) = i + k + 1 by omega]
      exact (Nat.mod_add_mod _ _ _).symm
    · rw [get k (by omega), nxt _ (Nat.mod_lt _ hpos), hhub]
      intro e
      have := inj _ _ (Nat.mod_lt _ hpos) hi e
      rw [hML] at hk
      rw [Nat.mod_add_mod] at this
      by_cases c : i + k + 1 < L.length
      · rw [Nat.mod_eq_of_lt c] at this; omega
      · rw [show i + k + 1 = i + k + 1 - L.length + L.length by omega, Nat.add_mod_right, Nat.mod_eq_of_lt (by omega)] at this
        omega
    · have := hML
      rw [e] at this; simp at this; omega
    · have hp2 : 0 < (L.drop i ++ L.take i).length := by omega
      rw [ends_at _ hp2, get _ (by omega), nxt _ (Nat.mod_lt _ hpos), hhub]
      congr 2
      rw [Nat.mod_add_mod, hML, show i + (L.length - 1) + 1 = i + L.length by omega, Nat.add_mod_right, Nat.mod_eq_of_lt hi]
theorem froms_back_len {n : Int} {fs : List (List Int)} (h : WalkOk n fs) (v : Int) : (froms (waysL 0 (back fs)) v).length = (froms (waysL 0 fs) v).length := by
  have one : ∀ {gs : List (List Int)} (hg : WalkOk n gs), (froms (waysL 0 (back gs)) v).length ≤ (froms (waysL 0 gs) v).length := by
    intro gs hg
    have nd : ((froms (waysL 0 (back gs)) v).map turnW).Nodup := by
      rw [List.nodup_iff_pairwise_ne, List.pairwise_map]
      refine (List.Pairwise.filter _ hg.back.apart).imp fun {x y} h e => h.2 ⟨?_, ?_⟩
      · have := congrArg Way.a e; simpa [turnW] using this
      · have := congrArg Way.c e; simpa [turnW] using this
    have := nodup_le _ (froms (waysL 0 gs) v) nd fun w hw => by
      obtain ⟨u, hu, rfl⟩ := List.mem_map.1 hw
      obtain ⟨h1, h2⟩ := mem_froms.1 hu
      exact mem_froms.2 ⟨turn_mem hg.long h1, h2⟩
    simpa using this
  have h1 := one h
  have h2 := one h.back
  rw [back_back] at h2
  omega
/-- A full fan, turned. -/
theorem fan_back {n : Int} {fs : List (List Int)} (ok : WalkOk n fs) {v s : Int} {L : List Way} {r : Bool} (hpos : 0 < L.length) (hF : FanR (waysL 0 fs) v s L r) (hl : L.length = (froms (waysL 0 fs) v).length) :
    ∃ M, FanR (waysL 0 (back fs)) v (hubOf (waysL 0 (back fs)) v (waysL 0 (back fs))).1 M r ∧ M.length = (froms (waysL 0 (back fs)) v).length := by
  have hends := ends_at s hpos
  have hall : ∀ w ∈ waysL 0 fs, w.a = v → w ∈ L := fan_all ok hF hl
  have gl : ((L.map turnW).reverse).length = L.length := by simp
  have get : ∀ k (hk : k < ((L.map turnW).reverse).length), ((L.map turnW).reverse)[k] = turnW (L[L.length - 1 - k]'(by rw [gl] at hk; omega)) := by
    intro k hk
    rw [List.getElem_reverse, List.getElem_map]
    simp
  have hp2 : 0 < ((L.map turnW).reverse).length := by omega
  have he2 : ends ((L.map turnW).reverse) (ends L s) = s := by
    rw [ends_at _ hp2, get _ (by omega)]
    simp only [turnW, gl]
    have : L.length - 1 - (L.length - 1) = 0 := by omega
    simp only [this]
    exact hF.first hpos
  refine cover ok.back hp2 ⟨fun w hw => ?_, fun h => ?_, fun k hk => ?_, fun k hk => ?_⟩ (by rw [froms_back_len ok, gl]; exact hl) r (fun hr => ?_) (fun hr => ?_) (s := ends L s)
  · rw [List.mem_reverse, List.mem_map] at hw
    obtain ⟨u, hu, rfl⟩ := hw
    exact ⟨turn_mem' ok.long (hF.mem u hu).1, (hF.mem u hu).2⟩
  · rw [get 0 h, hends]; rfl
  · rw [get (k + 1) hk, get k (by omega)]
    rw [gl] at hk
    have := hF.link (L.length - 1 - (k + 1)) (by omega)
    simp only [show L.length - 1 - (k + 1) + 1 = L.length - 1 - k by omega] at this
    exact this.symm
  · rw [get k (by omega)]
    rw [gl] at hk
    simp only [turnW]
    intro e
    cases r with
    | true =>
      rw [(hF.back rfl).2] at e
      have m1 := hF.mem _ (List.getElem_mem (show L.length - 1 - k < L.length by omega))
      have m2 := hF.mem _ (List.getElem_mem hpos)
      have := ok.apart.key m1.1 m2.1 (m1.2.trans m2.2.symm) (by rw [e]; exact (hF.first hpos).symm)
      have := (List.getElem_inj (hF.toFanC.nodup ok)).1 this
      omega
    | false =>
      have m1 := hF.mem _ (List.getElem_mem (show L.length - 1 - k < L.length by omega))
      exact (hF.stop rfl).1 _ m1.1 m1.2 e
  · rw [he2]; exact (hF.back hr).2.symm
  · obtain ⟨h1, h2⟩ := hF.stop hr
    have h3 : ends L s ≠ s := by
      rcases h2 with h2 | h2
      · rw [h2] at hpos; simp at hpos
      · exact h2
    refine ⟨by rw [he2]; exact fun e => h3 e.symm, fun w hw ha e => ?_⟩
    rw [he2] at e
    obtain ⟨i, hi, e2⟩ := List.getElem_of_mem (hall _ (turn_mem ok.long hw) ha)
    have e3 : (L[i]).c = s := by rw [e2]; exact e
    by_cases c : i + 1 < L.length
    · exact hF.mid i c e3
    · have : i = L.length - 1 := by omega
      subst this
      rw [← hends] at e3; exact h3 e3
theorem fan_pos {n : Int} {fs : List (List Int)} (ok : WalkOk n fs) {v : Int} (h0 : 0 ≤ v) (h1 : v < n) {L : List Way} (hl : L.length = (froms (waysL 0 fs) v).length) : 0 < L.length := by
  obtain ⟨w, hw, hb⟩ := ok.all v h0 h1
  obtain ⟨d, hd⟩ := ok.next hw
  have h2 : (⟨w.b, d, w.f, w.a⟩ : Way) ∈ froms (waysL 0 fs) v := mem_froms.2 ⟨hd, hb⟩
  rw [hl]
  exact List.length_pos_of_mem h2
theorem surf_back {n : Int} {fs : List (List Int)} (h : Surf n fs) : Surf n (back fs) := ⟨h.1.back, fun v h0 h1 => by
  obtain ⟨L, r, h2, h3⟩ := h.2 v h0 h1
  obtain ⟨M, h4, h5⟩ := fan_back h.1 (fan_pos h.1 h0 h1 h3) h2 h3
  exact ⟨M, r, h4, h5⟩⟩
theorem surf_back_iff {n : Int} {fs : List (List Int)} : Surf n fs ↔ Surf n (back fs) := ⟨surf_back, fun h => by have := surf_back h; rwa [back_back] at this⟩
/-- Turned: the same edges, with their faces changed; the same vertices are round. -/
theorem topo_back {n : Int} {fs : List (List Int)} {t u : TopoT} (h : TopoS n fs t) (k : TopoS n (back fs) u) : u.es = t.es.map (fun e => ⟨e.a, e.b, e.g, e.f⟩) ∧ u.rs = t.rs := by
  refine ⟨k.edges.one (edges_back h.walk h.edges), ?_⟩
  have h1 := h.nr
  have h2 := k.nr
  have h3 := h.nf
  have h4 := k.nf
  refine List.ext_getElem (by omega) fun v hv1 hv2 => ?_
  obtain ⟨L, g1, g2, _⟩ := h.fan v (by omega) hv2
  obtain ⟨M, k1, k2, _⟩ := k.fan v (by omega) hv1
  obtain ⟨M2, g3, g4⟩ := fan_back h.walk (fan_pos h.walk (by omega) (by omega) g2) g1 g2
  exact (k1.unique k.walk.apart g3).2
end Go.Proofs.Ytbehobojgeganaa
